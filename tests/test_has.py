"""What an account has (has), would have if the greatest set went (then), and if all groups went (all)."""

from tests.helper import FAR, GOODS, GREATEST_AFTER_DEPOSIT, GREATEST_AMOUNT, GREATEST_KEY, HouseCase
from tests.helper import account, ask, cancel, deposit, go, group, has, hold, last, limit, place, settle, then, with_all
from tests.helper import withdraw

THREE = [account(1), account(2), account(3)]
ASKING = (has, then, with_all)


class AskedCase(HouseCase):
    def assert_amounts(self, calls, account_key, good, amount, if_settled, if_all):
        asked = [has(account_key, good), then(account_key, good), with_all(account_key, good)]
        given = ask(calls + asked)[len(calls):]
        self.assertEqual([given[0][0], given[1], given[2]], [amount, [if_settled], [if_all]])


class EachOfThemTest(AskedCase):
    def test_out_of_range(self):
        for asking in ASKING:
            self.assert_out_of_range(THREE, lambda key: asking(key, 1), 1, GREATEST_KEY)
            self.assert_out_of_range(THREE, lambda good: asking(1, good), 1, 4)

    def test_ends_of_the_ranges(self):
        calls = [account(1), account(GREATEST_KEY)]
        for key in (1, GREATEST_KEY):
            for good in (1, 4):
                richer = calls + [deposit(key, good, 7)]
                self.assertEqual(last(richer + [has(key, good)]), [7, 0])
                self.assert_amounts(richer, key, good, 7, 7, 7)

    def test_no_such_account(self):
        for asking in ASKING:
            self.assert_refused([], asking(1, 1), -4)
            self.assert_refused(THREE, asking(4, 1), -4)
            self.assert_refused(THREE, asking(GREATEST_KEY, 4), -4)
            # A group's key is no account's.
            self.assert_refused(THREE + [group(7, (1, 2, 1, 1))], asking(7, 1), -4)

    def test_out_of_range_comes_before_missing(self):
        for asking in ASKING:
            for account_key, good in ((4, 0), (4, 5), (4, FAR), (0, 1), (GREATEST_KEY + 1, 0), (-FAR, -FAR)):
                self.assert_refused(THREE, asking(account_key, good), -1)

    def test_a_new_account_has_nothing(self):
        for good in GOODS:
            self.assertEqual(last(THREE + [has(2, good)]), [0, 0])
            self.assert_amounts(THREE, 2, good, 0, 0, 0)

    def test_accounts_and_goods_are_apart(self):
        calls = THREE + [deposit(1, 2, 5), limit(2, 3, 9)]
        for key in (1, 2, 3):
            for good in GOODS:
                expected = {(1, 2): [5, 0], (2, 3): [0, 9]}.get((key, good), [0, 0])
                self.assertEqual(last(calls + [has(key, good)]), expected)


class HasTest(AskedCase):
    def test_the_amount_and_the_limit(self):
        calls = THREE + [deposit(1, 3, 10), limit(1, 3, 4)]
        self.assertEqual(last(calls + [has(1, 3)]), [10, 4])
        self.assertEqual(last(calls + [withdraw(1, 3, 14), has(1, 3)]), [-4, 4])
        self.assertEqual(last(calls + [withdraw(1, 3, 12), limit(1, 3, 2), has(1, 3)]), [-2, 2])

    def test_below_nothing(self):
        # Both may be numbers that refusals have, and are told with the limit behind.
        for owed in range(1, 10):
            calls = THREE + [limit(1, 1, 9), withdraw(1, 1, owed)]
            self.assertEqual(last(calls + [has(1, 1)]), [-owed, 9])

    def test_the_least_and_the_most(self):
        calls = THREE + [limit(1, 1, GREATEST_AMOUNT), withdraw(1, 1, GREATEST_AMOUNT)]
        self.assertEqual(last(calls + [has(1, 1)]), [-GREATEST_AMOUNT, GREATEST_AMOUNT])
        calls = THREE + [deposit(1, 1, GREATEST_AMOUNT)] * 10
        self.assertEqual(last(calls + [has(1, 1)]), [GREATEST_AFTER_DEPOSIT, 0])
        # Legs may bring more than a deposit may.
        calls += [deposit(2, 1, 5), group(1, (2, 1, 1, 5)), settle()]
        self.assertEqual(last(calls + [has(1, 1)]), [GREATEST_AFTER_DEPOSIT + 5, 0])

    def test_behind_go_and_settle(self):
        calls = THREE + [deposit(1, 1, 9), group(1, (1, 2, 1, 5)), group(2, (1, 3, 1, 3)), go(1)]
        self.assertEqual(ask(calls + [has(1, 1), has(2, 1), has(3, 1)])[-3:], [[4, 0], [5, 0], [0, 0]])
        calls += [settle()]
        self.assertEqual(ask(calls + [has(1, 1), has(2, 1), has(3, 1)])[-3:], [[1, 0], [5, 0], [3, 0]])

    def test_a_refused_call_leaves_it(self):
        calls = THREE + [deposit(1, 1, 9), withdraw(1, 1, 10), limit(1, 1, GREATEST_AMOUNT + 1)]
        self.assertEqual(last(calls + [has(1, 1)]), [9, 0])


class ThenAndAllTest(AskedCase):
    def test_where_everything_can_go(self):
        calls = THREE + [deposit(1, 1, 9), group(1, (1, 2, 1, 5)), group(2, (1, 3, 1, 3))]
        self.assert_amounts(calls, 1, 1, 9, 1, 1)
        self.assert_amounts(calls, 2, 1, 0, 5, 5)
        self.assert_amounts(calls, 3, 1, 0, 3, 3)
        self.assert_amounts(calls, 1, 2, 0, 0, 0)

    def test_where_nothing_can_go(self):
        calls = THREE + [deposit(1, 1, 4), group(1, (1, 2, 1, 5)), group(2, (1, 3, 1, 3))]
        self.assert_amounts(calls, 1, 1, 4, 4, -4)
        self.assert_amounts(calls, 2, 1, 0, 0, 5)
        self.assert_amounts(calls, 3, 1, 0, 0, 3)

    def test_where_not_everything_can_go(self):
        calls = THREE + [deposit(1, 1, 7), group(1, (1, 2, 1, 5)), group(2, (1, 3, 1, 3))]
        self.assert_amounts(calls, 1, 1, 7, 2, -1)
        self.assert_amounts(calls, 2, 1, 0, 5, 5)
        self.assert_amounts(calls, 3, 1, 0, 0, 3)
        self.assert_amounts(calls + [place(1, 2, 1)], 1, 1, 7, 4, -1)

    def test_held_groups_and_those_behind_them(self):
        calls = THREE + [deposit(1, 1, 9), group(1, (1, 2, 1, 5)), group(2, (1, 3, 1, 3))]
        self.assert_amounts(calls + [hold(1, 1)], 1, 1, 9, 9, 1)
        self.assert_amounts(calls + [hold(2, 1)], 1, 1, 9, 4, 1)
        self.assert_amounts(calls + [hold(1, 1), hold(2, 1)], 1, 1, 9, 9, 1)
        self.assert_amounts(calls + [hold(1, 1), hold(2, 1)], 3, 1, 0, 0, 3)

    def test_a_limit_that_is_not_nothing(self):
        calls = THREE + [limit(1, 1, 8), withdraw(1, 1, 1), group(1, (1, 2, 1, 5)), group(2, (1, 3, 1, 3))]
        self.assert_amounts(calls, 1, 1, -1, -6, -9)
        self.assert_amounts(calls + [limit(1, 1, 9)], 1, 1, -1, -9, -9)
        self.assert_amounts(calls + [limit(1, 1, 5)], 1, 1, -1, -1, -9)

    def test_together_but_not_one_after_another(self):
        calls = THREE + [group(1, (1, 2, 1, 5)), group(2, (2, 3, 1, 4)), group(3, (3, 1, 1, 4)), deposit(1, 1, 1)]
        self.assert_amounts(calls, 1, 1, 1, 0, 0)
        self.assert_amounts(calls, 2, 1, 0, 1, 1)
        self.assert_amounts(calls, 3, 1, 0, 0, 0)

    def test_no_groups(self):
        calls = THREE + [limit(1, 1, 8), withdraw(1, 1, 3)]
        self.assert_amounts(calls, 1, 1, -3, -3, -3)
        self.assert_amounts(calls + [group(1, (1, 2, 1, 5)), cancel(1)], 1, 1, -3, -3, -3)
        self.assert_amounts(calls + [group(1, (1, 2, 1, 5)), settle()], 1, 1, -8, -8, -8)

    def test_several_legs_of_a_group(self):
        legs = ((1, 2, 1, 5), (2, 1, 1, 2), (1, 3, 1, 5), (1, 2, 2, 4), (1, 2, 1, 5))
        calls = THREE + [group(1, *legs)]
        self.assert_amounts(calls, 1, 1, 0, 0, -13)
        self.assert_amounts(calls, 1, 2, 0, 0, -4)
        self.assert_amounts(calls, 2, 1, 0, 0, 8)
        self.assert_amounts(calls + [deposit(1, 1, 13), deposit(1, 2, 4)], 1, 1, 13, 0, 0)

    def test_as_much_as_a_line_can_move(self):
        calls = THREE + [group(key, *[(1, 2, 4, GREATEST_AMOUNT)] * 8) for key in range(1, 25)]
        self.assert_amounts(calls, 1, 4, 0, 0, -192 * GREATEST_AMOUNT)
        self.assert_amounts(calls, 2, 4, 0, 0, 192 * GREATEST_AMOUNT)
