import ast
import contextlib
import io
from pathlib import Path
import re
import time
import unittest
from unittest import mock

from settledatonce.house import answers
from tests.helper import FAR, GREATEST_AMOUNT
from tests.helper import account, can, cancel, deposit, flat, go, group, has, hold, legs, limit, more, moved, need
from tests.helper import place, raw_group, ready, row, settle, then, waiting, why, with_all, withdraw

# One call of each, ordinary and refused, with what is given back for each.
LINE = (
    (account(1), [1, 0]),
    (account(2), [1, 0]),
    (account(0), [1, -1]),
    (deposit(1, 1, 10), [1, 10]),
    (withdraw(1, 1, 3), [1, 7]),
    (limit(2, 2, 5), [1, 0]),
    (withdraw(2, 2, 4), [1, -4]),
    (deposit(3, 2, 4), [1, -4]),
    (group(8, (1, 2, 1, 7), (2, 1, 2, 1)), [1, 0]),
    (group(4, (1, 2, 1, 1)), [1, 0]),
    (raw_group(5, []), [1, -1]),
    (raw_group(5, [FAR] * 40), [1, -1]),
    (raw_group(5, [-FAR] * 40), [1, -1]),
    (ready(), [2, 1, 8]),
    (can(8), [1, 1]),
    (can(4), [1, 0]),
    (can(), [1, 1]),
    (can(*[-FAR] * 40), [1, -1]),
    (why(4), [4, 1, 1, 1, 1]),
    (why(8), [1, -8]),
    (has(1, 1), [2, 7, 0]),
    (has(2, 2), [2, -4, 5]),
    (then(1, 1), [1, 0]),
    (then(2, 2), [1, -5]),
    (with_all(1, 1), [1, -1]),
    (with_all(3, 1), [1, -4]),
    (need(1, 1, 4), [1, 1]),
    (need(2, 1, 4), [1, -8]),
    (more(1, 1, 1), [2, 1, 4]),
    (more(2, 1, 1), [1, 0]),
    (row(2), [3, 2, 8, 4]),
    (row(3), [1, -4]),
    (legs(8), [10, 0, 2, 1, 2, 1, 7, 2, 1, 2, 1]),
    (legs(5), [1, -4]),
    (waiting(), [3, 2, 4, 8]),
    (moved(1), [2, 7, 7]),
    (moved(5), [1, -1]),
    (hold(4, 1), [1, 0]),
    (why(4), [4, 0, 3, 0, 0]),
    (legs(4), [6, 1, 1, 1, 2, 1, 1]),
    (place(1, 4, 1), [1, 2]),
    (row(1), [3, 2, 4, 8]),
    (why(8), [4, 0, 2, 1, 4]),
    (ready(), [1, 0]),
    (go(), [1, 0]),
    (go(8), [1, -8]),
    (go(*[FAR] * 40), [1, -1]),
    (cancel(4), [1, 0]),
    (group(9, (2, 1, 1, 7)), [1, 0]),
    (ready(), [3, 2, 8, 9]),
    (go(8), [1, 1]),
    (settle(), [1, 1]),
    (settle(), [1, 0]),
    (deposit(1, 1, 1), [1, 8]),
)


class Untouched(list):
    """A list that no call may change, not for a while either."""

    def refuse(self, *numbers):
        raise AssertionError("what is handed in is changed")

    append = extend = insert = pop = remove = clear = reverse = sort = refuse
    __setitem__ = __delitem__ = __iadd__ = __imul__ = refuse


def full_house(leg_of):
    """8 accounts, and 24 groups of 8 legs; leg_of tells a leg by the group's key and the leg's number."""
    calls = [account(key) for key in range(1, 9)]
    return calls + [group(key, *[leg_of(key, at) for at in range(8)]) for key in range(1, 25)]


def ring_leg(key, at):
    return key % 8 + 1, (key + 1) % 8 + 1, 1, 1


def leg_of_the_first(key, at):
    """All is to come from one account, which has nothing: one group a round is out."""
    return 1, at % 7 + 2, 1, GREATEST_AMOUNT


def mixed_leg(key, at):
    giver = (key * 5 + at * 3) % 8
    return giver + 1, (giver + 1 + (key + at) % 7) % 8 + 1, at % 4 + 1, key * 7 % 11 + 1


def each_call_again_and_again():
    """All the calls that look for the greatest set, and settle and go where nothing can go."""
    calls = []
    for key in range(1, 25):
        account_key, good = key % 8 + 1, key % 4 + 1
        calls += [settle(), go(), ready(), can(*range(1, 25)), why(key), then(account_key, good)]
        calls += [need(1, 1, key), need(account_key, good, key), more(1, 1, GREATEST_AMOUNT)]
        calls += [more(account_key, good, key), moved(good), with_all(account_key, good), row(1), legs(key), waiting()]
    return calls


class InterfaceTest(unittest.TestCase):
    def test_calls_and_answers_stand_one_behind_another(self):
        self.assertEqual(answers(flat(call for call, given in LINE)), flat(given for call, given in LINE))

    def test_each_beginning_of_a_line(self):
        for count in range(1, len(LINE) + 1):
            part = LINE[:count]
            self.assertEqual(answers(flat(call for call, given in part)), flat(given for call, given in part))

    def test_one_call_alone(self):
        self.assertEqual(answers([0, 5]), [1, 0])
        self.assertEqual(answers([8]), [1, 0])
        self.assertEqual(answers([9, 0]), [1, 0])
        self.assertEqual(answers([10]), [1, 0])
        self.assertEqual(answers([11, 0]), [1, 1])
        self.assertEqual(answers([11, 1, 5]), [1, -4])
        self.assertEqual(answers([12, 5]), [1, -4])
        self.assertEqual(answers([13, 5, 1]), [1, -4])
        self.assertEqual(answers([14, 5, 1]), [1, -4])
        self.assertEqual(answers([15, 5, 1]), [1, -4])
        self.assertEqual(answers([16, 5, 1, 5]), [1, -4])
        self.assertEqual(answers([17, 5, 1, 5]), [1, -4])
        self.assertEqual(answers([18, 5]), [1, -4])
        self.assertEqual(answers([19, 5]), [1, -4])
        self.assertEqual(answers([20]), [1, 0])
        self.assertEqual(answers([21, 1]), [2, 0, 0])
        self.assertEqual(answers([4, 1, 0]), [1, -1])

    def test_the_kinds(self):
        given = answers(flat(call for call, given in LINE))
        self.assertIs(type(given), list)
        self.assertEqual({type(number) for number in given}, {int})

    def test_what_is_handed_in_is_not_changed(self):
        calls = flat(call for call, given in LINE)
        kept = list(calls)
        answers(calls)
        self.assertEqual(calls, kept)
        self.assertEqual(answers(Untouched(calls)), answers(calls))

    def test_nothing_is_kept_from_one_time_to_the_next(self):
        calls = flat(call for call, given in LINE)
        first = answers(calls)
        copied = list(first)
        other = answers(flat([account(1), deposit(1, 1, GREATEST_AMOUNT), group(8, (1, 2, 1, 1))]))
        self.assertEqual(other, [1, 0, 1, GREATEST_AMOUNT, 1, -4])
        self.assertEqual(answers(calls), copied)
        first.append(1)
        self.assertEqual(answers(calls), copied)

    def test_nothing_is_printed_or_read(self):
        said = io.StringIO()
        told = mock.Mock(side_effect=AssertionError("something is read"))
        with contextlib.redirect_stdout(said), contextlib.redirect_stderr(said):
            with mock.patch("builtins.open", told), mock.patch("builtins.input", told), mock.patch("sys.stdin", None):
                answers(flat(call for call, given in LINE))
        self.assertEqual(said.getvalue(), "")

    def test_a_line_of_four_hundred_calls(self):
        calls = full_house(ring_leg)
        given = answers(flat(calls + [ready()] * (400 - len(calls))))
        self.assertEqual(given, [1, 0] * 32 + ([25, 24] + list(range(1, 25))) * 368)

    def test_full_lines_are_answered_within_seconds(self):
        for leg_of in (ring_leg, leg_of_the_first, mixed_leg):
            house = full_house(leg_of)
            lines = [house + each_call_again_and_again()]
            for call in (why(1), need(1, 1, 1), need(1, 1, 24), more(1, 1, GREATEST_AMOUNT)):
                lines.append(house + [call] * (400 - len(house)))
            for calls in lines:
                before = time.process_time()
                answers(flat(calls))
                self.assertLess(time.process_time() - before, 5, (leg_of, calls[-1]))

    def test_the_longest_answers(self):
        calls = full_house(ring_leg)
        told = [number for at in range(8) for number in ring_leg(3, at)]
        given = answers(flat(calls + [legs(3)] * (400 - len(calls))))
        self.assertEqual(given, [1, 0] * 32 + ([34, 0, 8] + told) * 368)

    def test_a_line_of_the_longest_calls(self):
        self.assertEqual(answers(flat([raw_group(1, [FAR] * 40)] * 395)), [1, -1] * 395)

    def test_the_example_of_the_readme(self):
        text = (Path(__file__).resolve().parent.parent / "README.md").read_text(encoding="utf-8")
        example = text.split("    answers([\n")[1]
        called, given = example.split("    ])\n    # ")
        numbers = re.findall(r"-?\d+", re.sub(r"#.*", "", called))
        self.assertEqual(answers([int(number) for number in numbers]), ast.literal_eval(given.split("\n")[0]))
