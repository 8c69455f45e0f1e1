from tests.helper import FAR, GOODS, GREATEST_AFTER_DEPOSIT, GREATEST_AMOUNT, GREATEST_KEY, HouseCase
from tests.helper import account, ask, cancel, deposit, go, group, has, hold, last, limit, more, place, ready, settle

THREE = [account(1), account(2), account(3)]
# Account 1 has 3 and is to give 10, then 10 more; account 2 hands on 10, account 3 5.
ROWS = THREE + [deposit(1, 1, 3), group(7, (1, 2, 1, 10)), group(5, (1, 3, 1, 10))]
ROWS += [group(9, (2, 3, 1, 10)), group(2, (3, 2, 1, 5))]


class MoreTest(HouseCase):
    group_keys = (2, 5, 7, 9)

    def assert_more(self, calls, account_key, good, amount, keys):
        before = last(calls + [ready()])[1:]
        self.assertEqual(last(calls + [more(account_key, good, amount)]), [len(keys)] + list(keys))
        behind = last(calls + [deposit(account_key, good, amount), ready()])[1:]
        self.assertEqual([key for key in behind if key not in before], list(keys))

    def test_an_amount_that_brings_in_none(self):
        for amount in (1, 6):
            self.assert_more(ROWS, 1, 1, amount, ())
        for good in (2, 3, 4):
            self.assert_more(ROWS, 1, good, GREATEST_AMOUNT, ())
        self.assert_more(ROWS, 2, 1, GREATEST_AMOUNT, ())
        self.assert_more(THREE, 1, 1, 5, ())

    def test_an_amount_that_brings_in_one(self):
        self.assert_more(ROWS, 1, 1, 7, (7,))
        self.assert_more(ROWS, 1, 1, 16, (7,))
        for good in GOODS:
            self.assert_more(THREE + [group(4, (2, 3, good, 1))], 2, good, 1, (4,))

    def test_an_amount_that_brings_in_several_of_other_accounts_too(self):
        self.assert_more(ROWS, 1, 1, 17, (2, 5, 7, 9))
        self.assert_more(ROWS, 1, 1, GREATEST_AMOUNT, (2, 5, 7, 9))
        self.assert_more(ROWS + [hold(2, 1)], 1, 1, 17, (5, 7, 9))
        self.assert_more(ROWS + [hold(9, 1)], 1, 1, 17, (5, 7))
        self.assert_more(ROWS + [hold(7, 1)], 1, 1, 17, ())

    def test_groups_that_are_ready_already_are_not_told(self):
        self.assert_more(ROWS + [deposit(1, 1, 7)], 1, 1, 9, ())
        self.assert_more(ROWS + [deposit(1, 1, 7)], 1, 1, 10, (2, 5, 9))
        self.assert_more(ROWS + [deposit(1, 1, 17)], 1, 1, 10, ())

    def test_a_limit_counts(self):
        self.assert_more(ROWS + [limit(1, 1, 6)], 1, 1, 1, (7,))
        self.assert_more(ROWS + [limit(1, 1, 5)], 1, 1, 1, ())

    def test_the_ends_of_the_amount(self):
        calls = THREE + [deposit(1, 1, 4), group(5, (1, 2, 1, 5)), group(2, (1, 2, 1, GREATEST_AMOUNT))]
        self.assert_more(calls, 1, 1, 1, (5,))
        self.assert_more(calls, 1, 1, GREATEST_AMOUNT - 1, (5,))
        self.assert_more(calls, 1, 1, GREATEST_AMOUNT, (5,))
        self.assert_more(calls + [deposit(1, 1, 1)], 1, 1, GREATEST_AMOUNT, (2,))
        self.assert_more(calls + [deposit(1, 1, 1)], 1, 1, GREATEST_AMOUNT - 1, ())

    def test_more_than_a_deposit_may_bring(self):
        calls = THREE + [deposit(1, 1, GREATEST_AMOUNT)] * 10
        calls += [group(1, *[(1, 2, 1, GREATEST_AMOUNT)] * 8), group(2, *[(1, 2, 1, GREATEST_AMOUNT)] * 3)]
        self.assertEqual(last(calls + [deposit(1, 1, GREATEST_AMOUNT)]), [-5])
        self.assertEqual(last(calls + [more(1, 1, GREATEST_AMOUNT)]), [1, 2])
        self.assertEqual(last(calls + [more(1, 1, GREATEST_AMOUNT - 1)]), [0])
        self.assertEqual(last(calls + [more(1, 1, 1)]), [0])
        self.assertEqual(last(calls + [more(1, 1, 1), has(1, 1)]), [GREATEST_AFTER_DEPOSIT, 0])

    def test_twenty_four(self):
        calls = THREE + [group(key, (1, 2, 1, 1)) for key in range(24, 0, -1)]
        self.assert_more(calls, 1, 1, 24, range(1, 25))
        self.assert_more(calls, 1, 1, 23, range(2, 25))

    def test_out_of_range(self):
        self.assert_out_of_range(ROWS, lambda key: more(key, 1, 1), 1, GREATEST_KEY)
        self.assert_out_of_range(ROWS, lambda good: more(1, good, 1), 1, 4)
        self.assert_out_of_range(ROWS, lambda amount: more(1, 1, amount), 1, GREATEST_AMOUNT)

    def test_ends_of_the_ranges(self):
        for good in (1, 4):
            calls = [account(1), account(GREATEST_KEY)]
            calls += [group(1, (1, GREATEST_KEY, good, 2)), group(GREATEST_KEY, (GREATEST_KEY, 1, good, 5))]
            self.assert_more(calls, 1, good, 2, (1,))
            self.assert_more(calls, GREATEST_KEY, good, 3, (1, GREATEST_KEY))
            self.assert_more(calls, GREATEST_KEY, good, 2, ())

    def test_no_such_account(self):
        self.assert_refused([], more(1, 1, 1), -4)
        self.assert_refused(ROWS, more(4, 1, 1), -4)
        self.assert_refused(ROWS, more(GREATEST_KEY, 4, GREATEST_AMOUNT), -4)
        self.assert_refused(ROWS, more(7, 1, 1), -4)

    def test_out_of_range_comes_before_missing(self):
        for account_key, good, amount in ((4, 0, 1), (4, 5, 1), (4, 1, 0), (4, 1, GREATEST_AMOUNT + 1), (4, FAR, -FAR)):
            self.assert_refused(ROWS, more(account_key, good, amount), -1)

    def test_behind_what_changes_the_house(self):
        self.assert_more(ROWS + [cancel(7)], 1, 1, 7, (5,))
        self.assert_more(ROWS + [cancel(7), cancel(9)], 1, 1, 7, (2, 5))
        self.assert_more(ROWS + [place(1, 5, 1)], 1, 1, 7, (5,))
        self.assert_more(ROWS + [deposit(1, 1, 7), go(7)], 1, 1, 10, (2, 5, 9))
        self.assert_more(ROWS + [deposit(1, 1, 7), settle()], 1, 1, 10, (2, 5, 9))

    def test_nothing_is_left_behind(self):
        asked = [more(1, 1, 17), more(1, 1, 6), ready(), has(1, 1), more(1, 1, 17)]
        self.assertEqual(ask(ROWS + asked)[len(ROWS):], [[4, 2, 5, 7, 9], [0], [0], [3, 0], [4, 2, 5, 7, 9]])
