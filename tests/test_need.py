from tests.helper import FAR, GOODS, GREATEST_AMOUNT, GREATEST_KEY, HouseCase
from tests.helper import account, ask, can, cancel, deposit, go, group, hold, last, limit, more, need, place, ready
from tests.helper import settle, withdraw

THREE = [account(1), account(2), account(3)]
# Account 1 has 3 and is to give 10, then 10 more.
ROW = THREE + [deposit(1, 1, 3), group(1, (1, 2, 1, 10)), group(2, (1, 3, 1, 10))]
WHOLE_ROW_OF_ONE = THREE + [group(key, *[(1, 2, 4, GREATEST_AMOUNT)] * 8) for key in range(1, 25)]


class NeedTest(HouseCase):
    def assert_need(self, calls, account_key, good, key, amount):
        """So much is needed; behind a deposit of it the group is ready, behind one less it isn't."""
        self.assertEqual(last(calls + [need(account_key, good, key)]), [amount])
        for less in (0, 1):
            if amount - less > 0:
                self.assertEqual(
                    key in last(calls + [deposit(account_key, good, amount - less), ready()])[1:], less == 0
                )
                self.assertEqual(key in last(calls + [more(account_key, good, amount - less)])[1:], less == 0)

    def assert_no_amount(self, calls, account_key, good, key):
        self.assert_refused(calls, need(account_key, good, key), -8)
        self.assertNotIn(key, last(calls + [deposit(account_key, good, GREATEST_AMOUNT), ready()])[1:])

    def test_just_enough(self):
        self.assert_need(ROW, 1, 1, 1, 7)
        self.assert_need(ROW, 1, 1, 2, 17)
        for good in GOODS:
            self.assert_need(THREE + [group(1, (2, 3, good, 1))], 2, good, 1, 1)

    def test_a_limit_counts(self):
        self.assert_need(ROW + [limit(1, 1, 2)], 1, 1, 1, 5)
        self.assert_need(ROW + [limit(1, 1, 6)], 1, 1, 1, 1)
        self.assert_need(ROW + [limit(1, 1, 7)], 1, 1, 1, 0)
        self.assert_need(ROW + [limit(1, 1, 2), withdraw(1, 1, 5)], 1, 1, 1, 10)

    def test_nothing_for_a_group_that_is_in_the_greatest_set(self):
        calls = ROW + [deposit(1, 1, 7)]
        for account_key in (1, 2, 3):
            for good in GOODS:
                self.assert_need(calls, account_key, good, 1, 0)
        self.assert_need(calls, 1, 1, 2, 10)

    def test_nothing_for_groups_that_go_together_alone(self):
        ring = THREE + [group(1, (1, 2, 1, 5)), group(2, (2, 3, 1, 5)), group(3, (3, 1, 1, 5))]
        for key in (1, 2, 3):
            for account_key in (1, 2, 3):
                self.assert_need(ring, account_key, 1, key, 0)

    def test_a_row_that_goes_further_may_need_less(self):
        calls = THREE + [deposit(3, 1, 4), group(1, (1, 2, 1, 10)), group(2, (3, 1, 1, 4)), group(3, (1, 2, 1, 20))]
        self.assert_need(calls, 1, 1, 1, 6)
        self.assert_need(calls, 1, 1, 2, 6)
        self.assert_need(calls, 1, 1, 3, 26)
        # Who is to give the 4 back doesn't have them.
        self.assert_need(calls + [withdraw(3, 1, 1)], 1, 1, 1, 10)
        self.assert_no_amount(calls + [withdraw(3, 1, 1)], 1, 1, 2)
        self.assert_need(calls + [hold(2, 1)], 1, 1, 1, 10)

    def test_what_comes_back_by_way_of_others(self):
        calls = THREE + [group(1, (1, 2, 1, 10)), group(2, (2, 3, 1, 9)), group(3, (3, 1, 1, 8))]
        self.assert_need(calls, 1, 1, 1, 2)
        self.assert_need(calls, 1, 1, 2, 2)
        self.assert_need(calls, 1, 1, 3, 2)
        # Without account 1 nothing goes, so it must have the 2 by itself.
        self.assert_no_amount(calls, 2, 1, 1)
        self.assert_no_amount(calls, 3, 1, 2)

    def test_a_group_that_does_not_touch_the_account(self):
        calls = THREE + [group(1, (1, 2, 1, 10)), group(2, (2, 3, 1, 10))]
        self.assert_need(calls, 1, 1, 2, 10)
        self.assert_no_amount(calls, 2, 1, 2)
        self.assert_need(calls + [place(2, 2, 1)], 2, 1, 2, 10)
        # Account 2 hands on what it gets, in whatever order.
        self.assert_need(calls + [place(2, 2, 1)], 1, 1, 2, 10)

    def test_an_account_that_no_group_touches(self):
        calls = [account(4)] + ROW
        self.assert_need(calls + [deposit(1, 1, 7)], 4, 1, 1, 0)
        self.assert_no_amount(calls, 4, 1, 1)

    def test_a_held_group(self):
        self.assert_no_amount(ROW + [hold(1, 1)], 1, 1, 1)
        self.assert_no_amount(ROW + [hold(2, 1)], 1, 1, 2)
        self.assert_need(ROW + [hold(2, 1)], 1, 1, 1, 7)
        self.assert_need(ROW + [hold(1, 1), hold(1, 0)], 1, 1, 1, 7)
        self.assert_no_amount(THREE + [deposit(1, 1, 9), group(1, (1, 2, 1, 5)), hold(1, 1)], 1, 1, 1)

    def test_a_group_behind_a_held_one(self):
        self.assert_no_amount(ROW + [hold(1, 1)], 1, 1, 2)
        calls = ROW + [hold(1, 1), place(1, 2, 1)]
        self.assert_need(calls, 1, 1, 2, 7)

    def test_a_group_that_another_account_keeps_back(self):
        calls = THREE + [group(1, (1, 2, 1, 10), (3, 2, 1, 1))]
        self.assert_no_amount(calls, 1, 1, 1)
        self.assert_no_amount(calls, 3, 1, 1)
        self.assert_need(calls + [deposit(3, 1, 1)], 1, 1, 1, 10)

    def test_a_group_behind_one_that_another_account_keeps_back(self):
        calls = THREE + [group(1, (3, 1, 2, 1)), group(2, (1, 2, 1, 10))]
        self.assert_no_amount(calls, 1, 1, 2)
        self.assert_need(calls + [deposit(3, 2, 1)], 1, 1, 2, 10)

    def test_another_good(self):
        calls = THREE + [group(1, (1, 2, 1, 10), (1, 2, 3, 1))]
        for good in GOODS:
            self.assert_no_amount(calls, 1, good, 1)
        self.assert_need(calls + [deposit(1, 3, 1)], 1, 1, 1, 10)
        self.assert_need(calls + [limit(1, 1, 10)], 1, 3, 1, 1)
        self.assert_no_amount(calls + [deposit(1, 3, 1)], 1, 2, 1)

    def test_as_much_as_a_line_can_need(self):
        # 24 groups of 8 legs: no line comes nearer to 1000000000000000.
        whole = 192 * GREATEST_AMOUNT
        self.assertEqual(last(WHOLE_ROW_OF_ONE + [need(1, 4, 24)]), [whole])
        self.assertEqual(last(WHOLE_ROW_OF_ONE + [need(1, 4, 1)]), [8 * GREATEST_AMOUNT])
        self.assertEqual(last(WHOLE_ROW_OF_ONE + [deposit(1, 4, 1), need(1, 4, 24)]), [whole - 1])
        self.assertEqual(last(WHOLE_ROW_OF_ONE + [limit(1, 4, 1), need(1, 4, 24)]), [whole - 1])
        owing = WHOLE_ROW_OF_ONE + [limit(1, 4, GREATEST_AMOUNT), withdraw(1, 4, GREATEST_AMOUNT)]
        self.assertEqual(last(owing + [need(1, 4, 24)]), [whole])
        self.assert_refused(WHOLE_ROW_OF_ONE, need(1, 3, 24), -8)
        self.assert_refused(WHOLE_ROW_OF_ONE, need(2, 4, 24), -8)

    def test_more_than_a_deposit_may_bring(self):
        calls = WHOLE_ROW_OF_ONE + [deposit(1, 4, GREATEST_AMOUNT)] * 10
        self.assertEqual(last(calls + [need(1, 4, 2)]), [6 * GREATEST_AMOUNT])
        self.assertEqual(last(calls + [need(1, 4, 1)]), [0])
        self.assertEqual(last(calls + [need(1, 4, 24)]), [182 * GREATEST_AMOUNT])

    def test_behind_what_changes_the_house(self):
        self.assert_need(ROW + [cancel(1)], 1, 1, 2, 7)
        self.assert_need(ROW + [place(1, 2, 1)], 1, 1, 1, 17)
        self.assert_need(ROW + [deposit(1, 1, 7), go(1)], 1, 1, 2, 10)
        self.assert_need(ROW + [deposit(1, 1, 8), settle()], 1, 1, 2, 9)

    def test_out_of_range(self):
        self.assert_out_of_range(ROW, lambda key: need(key, 1, 1), 1, GREATEST_KEY)
        self.assert_out_of_range(ROW, lambda good: need(1, good, 1), 1, 4)
        self.assert_out_of_range(ROW, lambda key: need(1, 1, key), 1, GREATEST_KEY)

    def test_ends_of_the_ranges(self):
        for good in (1, 4):
            calls = [account(1), account(GREATEST_KEY)]
            calls += [group(1, (1, GREATEST_KEY, good, 2)), group(GREATEST_KEY, (GREATEST_KEY, 1, good, 5))]
            self.assert_need(calls, 1, good, 1, 2)
            self.assert_no_amount(calls, 1, good, GREATEST_KEY)
            self.assert_need(calls, GREATEST_KEY, good, GREATEST_KEY, 3)
            self.assert_need(calls, GREATEST_KEY, good, 1, 3)

    def test_no_such_account_or_group(self):
        self.assert_refused([], need(1, 1, 1), -4)
        self.assert_refused(ROW, need(4, 1, 1), -4)
        self.assert_refused(ROW, need(GREATEST_KEY, 1, 1), -4)
        self.assert_refused(ROW, need(1, 1, 3), -4)
        self.assert_refused(ROW, need(1, 1, GREATEST_KEY), -4)
        self.assert_refused(ROW, need(4, 1, 4), -4)
        for gone in (cancel(1), go(1), settle()):
            self.assert_refused(ROW + [deposit(1, 1, 7), gone], need(1, 1, 1), -4)

    def test_out_of_range_comes_first(self):
        for account_key, good, key in ((4, 0, 1), (4, 1, 0), (1, 5, 3), (0, 1, 3), (4, FAR, 3), (1, -FAR, 2)):
            self.assert_refused(ROW + [hold(2, 1)], need(account_key, good, key), -1)

    def test_missing_comes_before_impossible(self):
        held = ROW + [hold(1, 1)]
        self.assert_refused(held, need(4, 1, 1), -4)
        self.assert_refused(held, need(4, 1, 2), -4)

    def test_nothing_is_left_behind(self):
        asked = [need(1, 1, 2), need(1, 1, 1), need(1, 1, 2), ready(), can(1), more(1, 1, 7)]
        self.assertEqual(ask(ROW + asked)[len(ROW):], [[17], [7], [17], [0], [0], [1, 1]])
