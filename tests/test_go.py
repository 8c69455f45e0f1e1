from itertools import permutations

from tests.helper import FAR, GREATEST_AMOUNT, GREATEST_KEY, HouseCase
from tests.helper import account, ask, cancel, deposit, go, group, hold, last, limit, place, ready, settle, withdraw

THREE = [account(1), account(2), account(3)]
# Nobody has anything, and everybody hands on what the one before hands over.
RING = THREE + [group(1, (1, 2, 1, 5)), group(2, (2, 3, 1, 5)), group(3, (3, 1, 1, 5))]
RICH = THREE + [deposit(1, 1, 1000)]
# All stand in one row behind another, and all could be paid.
ROW = RICH + [group(key, (1, 2, 1, 5)) for key in (1, 2, 3)]
FULL = RICH + [group(key, (1, 2, 1, 5)) for key in range(1, 25)]


class GoTest(HouseCase):
    group_keys = tuple(range(1, 26)) + (GREATEST_KEY,)

    def test_these_go(self):
        calls = ROW + [go(1, 2)]
        self.assertEqual(last(calls), [2])
        self.assertEqual(ask(calls + [deposit(1, 1, 1), deposit(2, 1, 1)])[-2:], [[991], [11]])
        self.assertEqual(ask(calls + [cancel(1), cancel(2), place(1, 3, 1), cancel(3)])[-4:], [[-4], [-4], [1], [0]])

    def test_in_whatever_order_they_are_told(self):
        for keys in permutations((1, 2, 3)):
            self.assertEqual(last(ROW + [go(*keys)]), [3])
            self.assertEqual(last(RING + [go(*keys)]), [3])

    def test_no_groups_at_all_can_go(self):
        self.assertEqual(ask([go()]), [[0]])
        self.assertEqual(last(THREE + [go()]), [0])
        self.assertEqual(last(ROW + [go(), ready()]), [3, 1, 2, 3])
        self.assertEqual(last(ROW + [hold(1, 1), go()]), [0])

    def test_twenty_four(self):
        self.assertEqual(last(FULL + [go(*range(1, 25))]), [24])
        self.assertEqual(ask(FULL + [go(*range(24, 0, -1)), deposit(2, 1, 1), ready()])[-3:], [[24], [121], [0]])

    def test_too_long(self):
        self.assert_refused(FULL, go(*range(1, 26)), -1)
        self.assert_refused(FULL, go(*range(1, 41)), -1)
        self.assert_refused(FULL, go(*[1] * 25), -1)

    def test_no_key(self):
        for keys in ([], [1], [1, 2]):
            self.assert_out_of_range(ROW, lambda key: go(*keys, key), 1, GREATEST_KEY)
            self.assert_out_of_range(ROW, lambda key: go(key, *keys), 1, GREATEST_KEY)

    def test_ends_of_the_keys(self):
        calls = RICH + [group(1, (1, 2, 1, 5)), group(GREATEST_KEY, (1, 2, 1, 5))]
        self.assertEqual(last(calls + [go(1)]), [1])
        self.assertEqual(last(calls + [go(1, GREATEST_KEY)]), [2])
        self.assertEqual(last(calls + [go(1), go(GREATEST_KEY)]), [1])

    def test_one_twice(self):
        self.assert_refused(ROW, go(1, 1), -3)
        self.assert_refused(ROW, go(1, 2, 3, 1), -3)
        self.assert_refused(ROW, go(1, 2, 2), -3)
        self.assert_refused(FULL, go(*range(1, 24), 23), -3)

    def test_one_that_is_no_groups(self):
        self.assert_refused(ROW, go(4), -4)
        self.assert_refused(ROW, go(1, 2, GREATEST_KEY), -4)
        self.assert_refused(ROW, go(GREATEST_KEY, 1), -4)
        self.assert_refused(ROW + [cancel(1)], go(1), -4)
        self.assert_refused(ROW + [go(1)], go(1), -4)
        self.assert_refused([], go(1), -4)

    def test_out_of_range_comes_first(self):
        self.assert_refused(ROW, go(0, 0), -1)
        self.assert_refused(ROW, go(1, 1, FAR), -1)
        self.assert_refused(ROW, go(-FAR, 1, 1), -1)
        self.assert_refused(ROW, go(4, 0), -1)
        self.assert_refused(ROW, go(3, GREATEST_KEY + 1), -1)
        self.assert_refused(ROW, go(*range(100, 125)), -1)
        self.assert_refused(ROW, go(*[4] * 25), -1)

    def test_one_twice_comes_before_missing_and_impossible(self):
        self.assert_refused(ROW, go(4, 4), -3)
        self.assert_refused(ROW, go(4, 1, 1), -3)
        self.assert_refused(ROW, go(1, 1, 4), -3)
        self.assert_refused(ROW, go(2, 2), -3)
        self.assert_refused(ROW + [hold(1, 1)], go(1, 1), -3)

    def test_missing_comes_before_impossible(self):
        self.assert_refused(ROW, go(2, 4), -4)
        self.assert_refused(ROW + [hold(1, 1)], go(1, 4), -4)


class CannotGoTest(HouseCase):
    def test_a_held_group(self):
        held = ROW + [hold(2, 1)]
        self.assert_refused(held, go(2), -8)
        self.assert_refused(held, go(1, 2), -8)
        self.assert_refused(held, go(1, 2, 3), -8)
        self.assert_refused(held, go(1, 3), -8)
        self.assertEqual(last(held + [go(1)]), [1])

    def test_a_group_behind_one_that_is_not_told(self):
        for keys in ((2,), (3,), (1, 3), (2, 3)):
            self.assert_refused(ROW, go(*keys), -8)

    def test_behind_one_in_one_of_its_rows_alone(self):
        calls = RICH + [deposit(3, 2, 1), group(1, (3, 2, 2, 1)), group(2, (1, 2, 1, 5))]
        self.assert_refused(calls, go(2), -8)
        self.assertEqual(last(calls + [place(2, 2, 1), go(2)]), [1])
        self.assertEqual(last(calls + [go(2, 1)]), [2])

    def test_one_short_by_one(self):
        for good in (1, 2, 3, 4):
            calls = THREE + [deposit(1, good, 4), group(1, (1, 2, good, 5))]
            self.assert_refused(calls, go(1), -8)
            self.assertEqual(last(calls + [deposit(1, good, 1), go(1)]), [1])
            self.assertEqual(last(calls + [limit(1, good, 1), go(1)]), [1])
            self.assert_refused(calls + [limit(1, good, 1), withdraw(1, good, 1)], go(1), -8)
            self.assert_refused(calls + [limit(1, good % 4 + 1, 9)], go(1), -8)

    def test_together_but_not_one_after_another(self):
        for keys in ((1,), (2,), (3,), (1, 2), (1, 3), (2, 3)):
            self.assert_refused(RING, go(*keys), -8)
        self.assertEqual(ask(RING + [go(1, 2, 3), ready(), go(1)])[-3:], [[3], [0], [-4]])
        amounts = ask(RING + [go(1, 2, 3)] + [deposit(key, 1, 1) for key in (1, 2, 3)])[-3:]
        self.assertEqual(amounts, [[1], [1], [1]])

    def test_each_alone_but_not_together(self):
        calls = [account(1), account(2), account(3), deposit(1, 1, 5)]
        calls += [group(1, (1, 2, 1, 5)), group(2, (1, 3, 1, 5))]
        self.assertEqual(last(calls + [go(1)]), [1])
        self.assertEqual(last(calls + [place(1, 2, 1), go(2)]), [1])
        self.assert_refused(calls, go(1, 2), -8)

    def test_a_part_of_the_greatest_set(self):
        self.assertEqual(ask(ROW + [go(1), ready(), go(2), settle()])[-4:], [[1], [2, 2, 3], [1], [1]])

    def test_just_at_the_greatest_limit(self):
        calls = THREE + [limit(1, 4, GREATEST_AMOUNT), group(1, (1, 2, 4, GREATEST_AMOUNT))]
        self.assertEqual(ask(calls + [go(1), deposit(1, 4, 1)])[-2:], [[1], [1 - GREATEST_AMOUNT]])
        self.assert_refused(calls + [withdraw(1, 4, 1)], go(1), -8)

    def test_who_is_at_a_limit_may_still_get_and_hand_on(self):
        calls = THREE + [limit(1, 1, 5), withdraw(1, 1, 5), deposit(2, 1, 3), group(1, (2, 1, 1, 3), (1, 3, 1, 3))]
        self.assertEqual(last(calls + [go(1)]), [1])
