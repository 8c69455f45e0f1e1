from itertools import permutations

from tests.helper import FAR, GREATEST_AMOUNT, GREATEST_KEY, HouseCase
from tests.helper import account, can, cancel, deposit, go, group, hold, last, limit, place, settle, subsets, withdraw

THREE = [account(1), account(2), account(3)]
# Nobody has anything, and everybody hands on what the one before hands over.
RING = THREE + [group(1, (1, 2, 1, 5)), group(2, (2, 3, 1, 5)), group(3, (3, 1, 1, 5))]
RICH = THREE + [deposit(1, 1, 1000)]
# All stand in one row behind another, and all could be paid.
ROW = RICH + [group(key, (1, 2, 1, 5)) for key in (1, 2, 3)]
FULL = RICH + [group(key, (1, 2, 1, 5)) for key in range(1, 25)]


class CanTest(HouseCase):
    group_keys = tuple(range(1, 26)) + (GREATEST_KEY,)

    def assert_can(self, calls, *keys):
        self.assertEqual(last(calls + [can(*keys)]), [1], keys)
        self.assertEqual(last(calls + [go(*keys)]), [len(keys)], keys)

    def assert_cannot(self, calls, *keys):
        self.assertEqual(last(calls + [can(*keys)]), [0], keys)
        self.assertEqual(last(calls + [go(*keys)]), [-8], keys)

    def test_no_groups_at_all_can_go(self):
        self.assertEqual(last([can()]), [1])
        self.assert_can(THREE)
        self.assert_can(ROW)
        self.assert_can(ROW + [hold(1, 1)])
        self.assert_can(RING)

    def test_in_whatever_order_they_are_told(self):
        for keys in permutations((1, 2, 3)):
            self.assert_can(ROW, *keys)
            self.assert_can(RING, *keys)

    def test_twenty_four(self):
        self.assert_can(FULL, *range(1, 25))
        self.assert_can(FULL, *range(24, 0, -1))
        self.assert_can(FULL, *range(1, 24))
        self.assert_cannot(FULL, *range(2, 25))

    def test_a_held_group(self):
        held = ROW + [hold(2, 1)]
        for keys in ((2,), (1, 2), (1, 2, 3), (1, 3), (3,)):
            self.assert_cannot(held, *keys)
        self.assert_can(held, 1)
        self.assert_can(held + [hold(2, 0)], 1, 2, 3)

    def test_a_group_behind_one_that_is_not_told(self):
        for keys in subsets((1, 2, 3)):
            if keys in ((), (1,), (1, 2), (1, 2, 3)):
                self.assert_can(ROW, *keys)
            else:
                self.assert_cannot(ROW, *keys)

    def test_behind_one_in_one_of_its_rows_alone(self):
        calls = RICH + [deposit(3, 2, 1), group(1, (3, 2, 2, 1)), group(2, (1, 2, 1, 5))]
        self.assert_cannot(calls, 2)
        self.assert_can(calls, 2, 1)
        self.assert_can(calls + [place(2, 2, 1)], 2)

    def test_together_but_not_one_after_another(self):
        for keys in ((1,), (2,), (3,), (1, 2), (1, 3), (2, 3)):
            self.assert_cannot(RING, *keys)
        self.assert_can(RING, 1, 2, 3)

    def test_each_alone_but_not_together(self):
        calls = THREE + [deposit(1, 1, 5), group(1, (1, 2, 1, 5)), group(2, (1, 3, 1, 5))]
        self.assert_can(calls, 1)
        self.assert_can(calls + [place(1, 2, 1)], 2)
        self.assert_cannot(calls, 1, 2)

    def test_one_short_by_one(self):
        for good in (1, 2, 3, 4):
            calls = THREE + [deposit(1, good, 4), group(1, (1, 2, good, 5))]
            self.assert_cannot(calls, 1)
            self.assert_can(calls + [deposit(1, good, 1)], 1)
            self.assert_can(calls + [limit(1, good, 1)], 1)
            self.assert_cannot(calls + [limit(1, good, 1), withdraw(1, good, 1)], 1)
            self.assert_cannot(calls + [limit(1, good % 4 + 1, 9), limit(2, good, 9)], 1)

    def test_just_at_the_greatest_limit(self):
        calls = THREE + [limit(1, 4, GREATEST_AMOUNT), group(1, (1, 2, 4, GREATEST_AMOUNT))]
        self.assert_can(calls, 1)
        self.assert_cannot(calls + [withdraw(1, 4, 1)], 1)

    def test_too_long(self):
        self.assert_refused(FULL, can(*range(1, 26)), -1)
        self.assert_refused(FULL, can(*range(1, 41)), -1)
        self.assert_refused(FULL, can(*[1] * 25), -1)
        self.assert_refused(FULL, can(*[1] * 40), -1)

    def test_no_key(self):
        for keys in ([], [1], [1, 2]):
            self.assert_out_of_range(ROW, lambda key: can(*keys, key), 1, GREATEST_KEY)
            self.assert_out_of_range(ROW, lambda key: can(key, *keys), 1, GREATEST_KEY)

    def test_ends_of_the_keys(self):
        calls = RICH + [group(1, (1, 2, 1, 5)), group(GREATEST_KEY, (1, 2, 1, 5))]
        self.assert_can(calls, 1)
        self.assert_can(calls, 1, GREATEST_KEY)
        self.assert_can(calls + [go(1)], GREATEST_KEY)
        self.assert_cannot(calls, GREATEST_KEY)

    def test_one_twice(self):
        self.assert_refused(ROW, can(1, 1), -3)
        self.assert_refused(ROW, can(1, 2, 3, 1), -3)
        self.assert_refused(FULL, can(*range(1, 24), 23), -3)

    def test_one_that_is_no_groups(self):
        self.assert_refused([], can(1), -4)
        self.assert_refused(ROW, can(4), -4)
        self.assert_refused(ROW, can(1, 2, GREATEST_KEY), -4)
        self.assert_refused(ROW, can(GREATEST_KEY, 1), -4)
        for gone in (cancel(1), go(1), settle()):
            self.assert_refused(ROW + [gone], can(1), -4)

    def test_out_of_range_comes_first(self):
        self.assert_refused(ROW, can(0, 0), -1)
        self.assert_refused(ROW, can(1, 1, FAR), -1)
        self.assert_refused(ROW, can(-FAR, 1, 1), -1)
        self.assert_refused(ROW, can(4, 0), -1)
        self.assert_refused(ROW, can(3, GREATEST_KEY + 1), -1)
        self.assert_refused(ROW, can(*range(100, 125)), -1)
        self.assert_refused(ROW, can(*[4] * 25), -1)

    def test_one_twice_comes_before_missing(self):
        self.assert_refused(ROW, can(4, 4), -3)
        self.assert_refused(ROW, can(4, 1, 1), -3)
        self.assert_refused(ROW, can(1, 1, 4), -3)
        self.assert_refused(ROW + [hold(1, 1)], can(1, 1), -3)

    def test_missing_is_answered_where_they_could_not_go_either(self):
        self.assert_refused(ROW, can(2, 4), -4)
        self.assert_refused(ROW + [hold(1, 1)], can(1, 4), -4)
