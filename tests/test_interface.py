import contextlib
import io
import unittest
from unittest import mock

from settledatonce.house import answers
from tests.helper import FAR, GREATEST_AMOUNT
from tests.helper import account, cancel, deposit, flat, go, group, hold, limit, place, raw_group, ready, settle
from tests.helper import withdraw

# One call of each, ordinary and refused, with what is given back for each.
LINE = (
    (account(1), [1, 0]),
    (account(2), [1, 0]),
    (account(0), [1, -1]),
    (deposit(1, 1, 10), [1, 10]),
    (withdraw(1, 1, 3), [1, 7]),
    (limit(2, 2, 5), [1, 0]),
    (withdraw(2, 2, 4), [1, -4]),
    (deposit(3, 2, 4), [1, -4]),
    (group(8, (1, 2, 1, 7), (2, 1, 2, 1)), [1, 0]),
    (group(4, (1, 2, 1, 1)), [1, 0]),
    (raw_group(5, []), [1, -1]),
    (raw_group(5, [FAR] * 40), [1, -1]),
    (raw_group(5, [-FAR] * 40), [1, -1]),
    (ready(), [2, 1, 8]),
    (hold(4, 1), [1, 0]),
    (place(1, 4, 1), [1, 2]),
    (ready(), [1, 0]),
    (go(), [1, 0]),
    (go(8), [1, -8]),
    (go(*[FAR] * 40), [1, -1]),
    (cancel(4), [1, 0]),
    (group(9, (2, 1, 1, 7)), [1, 0]),
    (ready(), [3, 2, 8, 9]),
    (go(8), [1, 1]),
    (settle(), [1, 1]),
    (settle(), [1, 0]),
    (deposit(1, 1, 1), [1, 8]),
)


class Untouched(list):
    """A list that no call may change, not for a while either."""

    def refuse(self, *numbers):
        raise AssertionError("what is handed in is changed")

    append = extend = insert = pop = remove = clear = reverse = sort = refuse
    __setitem__ = __delitem__ = __iadd__ = __imul__ = refuse


def long_line():
    calls = [account(key) for key in range(1, 9)]
    calls += [group(key, *[(key % 8 + 1, (key + 1) % 8 + 1, 1, 1)] * 8) for key in range(1, 25)]
    while len(calls) < 400:
        calls.append(ready())
    return calls


class InterfaceTest(unittest.TestCase):
    def test_calls_and_answers_stand_one_behind_another(self):
        self.assertEqual(answers(flat(call for call, given in LINE)), flat(given for call, given in LINE))

    def test_each_beginning_of_a_line(self):
        for count in range(1, len(LINE) + 1):
            part = LINE[:count]
            self.assertEqual(answers(flat(call for call, given in part)), flat(given for call, given in part))

    def test_one_call_alone(self):
        self.assertEqual(answers([0, 5]), [1, 0])
        self.assertEqual(answers([8]), [1, 0])
        self.assertEqual(answers([9, 0]), [1, 0])
        self.assertEqual(answers([10]), [1, 0])
        self.assertEqual(answers([4, 1, 0]), [1, -1])

    def test_the_kinds(self):
        given = answers(flat(call for call, given in LINE))
        self.assertIs(type(given), list)
        self.assertEqual({type(number) for number in given}, {int})

    def test_what_is_handed_in_is_not_changed(self):
        calls = flat(call for call, given in LINE)
        kept = list(calls)
        answers(calls)
        self.assertEqual(calls, kept)
        self.assertEqual(answers(Untouched(calls)), answers(calls))

    def test_nothing_is_kept_from_one_time_to_the_next(self):
        calls = flat(call for call, given in LINE)
        first = answers(calls)
        copied = list(first)
        other = answers(flat([account(1), deposit(1, 1, GREATEST_AMOUNT), group(8, (1, 2, 1, 1))]))
        self.assertEqual(other, [1, 0, 1, GREATEST_AMOUNT, 1, -4])
        self.assertEqual(answers(calls), copied)
        first.append(1)
        self.assertEqual(answers(calls), copied)

    def test_nothing_is_printed_or_read(self):
        said = io.StringIO()
        told = mock.Mock(side_effect=AssertionError("something is read"))
        with contextlib.redirect_stdout(said), contextlib.redirect_stderr(said):
            with mock.patch("builtins.open", told), mock.patch("builtins.input", told), mock.patch("sys.stdin", None):
                answers(flat(call for call, given in LINE))
        self.assertEqual(said.getvalue(), "")

    def test_a_line_of_four_hundred_calls(self):
        given = answers(flat(long_line()))
        whole = [1, 0] * 32 + ([25, 24] + list(range(1, 25))) * 368
        self.assertEqual(given, whole)

    def test_a_line_of_the_longest_calls(self):
        self.assertEqual(answers(flat([raw_group(1, [FAR] * 40)] * 395)), [1, -1] * 395)

    def test_the_example_of_the_readme(self):
        calls = [0, 1, 0, 2, 4, 7, 4, 1, 2, 1, 50, 4, 5, 4, 2, 1, 1, 50, 9, 1, 7, 10, 8]
        self.assertEqual(answers(calls), [1, 0, 1, 0, 1, 0, 1, 0, 1, -8, 3, 2, 5, 7, 1, 2])
