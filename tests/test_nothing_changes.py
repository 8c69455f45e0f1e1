"""None of the calls 10 to 21 changes anything: all calls answer the same behind it as without it."""

import unittest

from tests.helper import FAR, GOODS, GREATEST_AMOUNT, GREATEST_KEY
from tests.helper import account, ask, can, cancel, deposit, go, group, has, hold, last, legs, limit, more, moved, need
from tests.helper import place, probe, questions, ready, row, settle, then, waiting, why, with_all, withdraw

ACCOUNTS = (7, 2, 5, 3)
GROUPS = (6, 1, 4, 8, 3)
# Some of it can go, some is short, something is held, rows are in an order of their own.
HOUSE = [account(key) for key in ACCOUNTS] + [deposit(7, 1, 9), limit(2, 1, 4), withdraw(2, 1, 3), deposit(5, 3, 2)]
HOUSE += [group(6, (7, 2, 1, 5), (5, 7, 3, 1)), group(1, (2, 5, 1, 2)), group(4, (7, 5, 1, 9)), group(8, (5, 3, 1, 4))]
HOUSE += [group(3, (3, 2, 2, 1)), place(5, 8, 3), hold(3, 1)]
# The same, and nothing can go.
STUCK = HOUSE + [hold(6, 1)]
# The same, and everything can go.
LOOSE = HOUSE + [hold(3, 0), deposit(7, 1, 100), deposit(3, 2, 1)]


def asked():
    calls = questions(ACCOUNTS + (9,), GROUPS + (9,))
    calls += [can(), can(6, 1), can(1, 6), can(6, 4, 1, 8), can(1, 1), can(0), can(*[1] * 40)]
    for key in ACCOUNTS:
        for good in (1, 2, 3):
            calls += [need(key, good, group_key) for group_key in GROUPS]
            calls += [more(key, good, amount) for amount in (1, 5, 20, GREATEST_AMOUNT)]
    calls += [why(0), has(7, 5), then(0, 1), with_all(7, FAR), need(7, 1, 0), need(9, 1, 1), need(7, 1, 9)]
    calls += [more(7, 1, 0), more(9, 1, 1), row(-FAR), legs(GREATEST_KEY + 1), moved(0), ready(), waiting()]
    return calls


def told_behind():
    """Calls of all 22 kinds that each show or change something."""
    calls = probe(ACCOUNTS, GROUPS) + questions(ACCOUNTS, GROUPS)
    calls += [account(9), group(9, (7, 2, 1, 1)), cancel(6), settle(), go(6), go(6, 1), withdraw(7, 1, 9)]
    calls += [need(7, 1, 4), need(2, 1, 1), need(5, 3, 6), more(7, 1, 20), more(2, 1, 3), can(6, 1), limit(2, 1, 3)]
    return calls


class NothingChangesTest(unittest.TestCase):
    def test_all_questions_at_once(self):
        for house in (HOUSE, STUCK, LOOSE):
            first = house + asked()
            for call in told_behind():
                self.assertEqual(last(first + [call]), last(house + [call]), call)

    def test_each_question_by_itself(self):
        behind = probe(ACCOUNTS, GROUPS)
        for house in (HOUSE, STUCK, LOOSE):
            expected = ask(house + behind)[len(house):]
            for call in asked():
                self.assertEqual(ask(house + [call] + behind)[len(house) + 1:], expected, call)

    def test_questions_answer_the_same_again_and_the_other_way_round(self):
        calls = asked()
        for house in (HOUSE, STUCK, LOOSE):
            once = [last(house + [call]) for call in calls]
            self.assertEqual(ask(house + calls)[len(house):], once)
            self.assertEqual(ask(house + calls[::-1])[len(house):], once[::-1])
            for call, given in zip(calls, once):
                self.assertEqual(ask(house + [call] * 3)[-3:], [given] * 3)

    def test_need_and_more_leave_what_the_account_has(self):
        for house in (HOUSE, STUCK, LOOSE):
            for key in ACCOUNTS:
                for good in GOODS:
                    before = last(house + [has(key, good)])
                    for call in (need(key, good, 6), need(key, good, 3), more(key, good, 9), more(key, good, FAR)):
                        self.assertEqual(last(house + [call, has(key, good)]), before, call)

    def test_the_houses_differ(self):
        self.assertEqual(last(HOUSE + [ready()]), [2, 1, 6])
        self.assertEqual(last(STUCK + [ready()]), [0])
        self.assertEqual(last(LOOSE + [ready()]), [5, 1, 3, 4, 6, 8])


if __name__ == "__main__":
    unittest.main()
