"""The calls that tell what there is: row, legs, waiting."""

from tests.helper import GREATEST_AMOUNT, GREATEST_KEY, HouseCase
from tests.helper import account, ask, cancel, deposit, go, group, hold, last, legs, place, raw_group, ready, row
from tests.helper import settle, waiting

THREE = [account(1), account(2), account(3)]
RICH = THREE + [deposit(1, 1, 1000)]
# The keys fall, so that the order of the rows isn't the keys' order.
FALLING = RICH + [group(9, (1, 2, 1, 5)), group(5, (3, 1, 1, 5)), group(2, (1, 2, 1, 5))]


class RowTest(HouseCase):
    group_keys = (2, 5, 9)

    def test_an_empty_row(self):
        self.assertEqual(last([account(1), row(1)]), [0])
        self.assertEqual(last(RICH + [group(1, (1, 2, 1, 5)), row(3)]), [0])

    def test_in_the_order_in_which_they_came(self):
        self.assertEqual(ask(FALLING + [row(1), row(2), row(3)])[-3:], [[3, 9, 5, 2], [2, 9, 2], [1, 5]])

    def test_a_group_with_many_legs_stands_there_once(self):
        calls = THREE + [group(1, (1, 2, 1, 5), (2, 1, 2, 5), (1, 3, 1, 5), (1, 2, 1, 5))]
        self.assertEqual(ask(calls + [row(1), row(2), row(3)])[-3:], [[1, 1]] * 3)

    def test_behind_place(self):
        for n, order in ((1, [2, 9, 5]), (2, [9, 2, 5]), (3, [9, 5, 2]), (24, [9, 5, 2])):
            self.assertEqual(last(FALLING + [place(1, 2, n), row(1)]), [3] + order)
        for n, order in ((1, [9, 5, 2]), (2, [5, 9, 2]), (3, [5, 2, 9]), (4, [5, 2, 9])):
            self.assertEqual(last(FALLING + [place(1, 9, n), row(1)]), [3] + order)
        # The other rows stay as they were.
        self.assertEqual(last(FALLING + [place(1, 2, 1), row(2)]), [2, 9, 2])

    def test_behind_cancel_hold_go_and_settle(self):
        self.assertEqual(last(FALLING + [cancel(5), row(1)]), [2, 9, 2])
        self.assertEqual(last(FALLING + [cancel(5), row(3)]), [0])
        self.assertEqual(last(FALLING + [hold(9, 1), row(1)]), [3, 9, 5, 2])
        self.assertEqual(ask(FALLING + [go(9), row(1), row(2)])[-2:], [[2, 5, 2], [1, 2]])
        self.assertEqual(ask(FALLING + [settle(), row(1), row(2)])[-2:], [[2, 5, 2], [1, 2]])
        self.assertEqual(ask(FALLING + [deposit(3, 1, 5), settle(), row(1), row(2)])[-2:], [[0], [0]])

    def test_a_group_that_comes_again_is_the_last_one(self):
        self.assertEqual(last(FALLING + [cancel(9), group(9, (1, 2, 1, 5)), row(1)]), [3, 5, 2, 9])

    def test_twenty_four(self):
        calls = RICH + [group(key, (1, 2, 1, 5)) for key in range(24, 0, -1)]
        self.assertEqual(last(calls + [row(1)]), [24] + list(range(24, 0, -1)))

    def test_refusals(self):
        self.assert_out_of_range(FALLING, row, 1, GREATEST_KEY)
        self.assert_out_of_range([], row, 1, GREATEST_KEY)
        self.assert_refused([], row(1), -4)
        self.assert_refused(FALLING, row(4), -4)
        self.assert_refused(FALLING, row(9), -4)
        self.assert_refused(FALLING, row(GREATEST_KEY), -4)
        self.assertEqual(last([account(GREATEST_KEY), row(GREATEST_KEY)]), [0])


class LegsTest(HouseCase):
    group_keys = (2, 5, 9)

    def test_as_told(self):
        told = [2, 1, 3, 7, 1, 3, 1, 1, 3, 1, 4, GREATEST_AMOUNT, 2, 1, 3, 7]
        self.assertEqual(last(THREE + [raw_group(6, told), legs(6)]), [0, 4] + told)

    def test_one_leg_and_eight_legs(self):
        for count in (1, 8):
            told = [number for at in range(count) for number in (1, 2, 4, 9 - at)]
            self.assertEqual(last(THREE + [raw_group(6, told), legs(6)]), [0, count] + told)

    def test_each_group_has_its_own(self):
        self.assertEqual(ask(FALLING + [legs(2), legs(5)])[-2:], [[0, 1, 1, 2, 1, 5], [0, 1, 3, 1, 1, 5]])

    def test_a_held_group(self):
        self.assertEqual(last(FALLING + [hold(5, 1), legs(5)]), [1, 1, 3, 1, 1, 5])
        self.assertEqual(last(FALLING + [hold(5, 1), hold(5, 1), legs(5)]), [1, 1, 3, 1, 1, 5])
        self.assertEqual(last(FALLING + [hold(5, 1), legs(9)]), [0, 1, 1, 2, 1, 5])
        self.assertEqual(last(FALLING + [hold(5, 1), hold(5, 0), legs(5)]), [0, 1, 3, 1, 1, 5])

    def test_behind_place_go_settle_and_cancel(self):
        for call in (place(1, 2, 1), go(9), settle(), cancel(5)):
            self.assertEqual(last(FALLING + [call, legs(2)]), [0, 1, 1, 2, 1, 5])

    def test_a_group_that_comes_again(self):
        calls = FALLING + [hold(9, 1), cancel(9), group(9, (2, 3, 4, 1))]
        self.assertEqual(last(calls + [legs(9)]), [0, 1, 2, 3, 4, 1])
        # A refused group leaves the one that's there.
        self.assertEqual(last(FALLING + [group(9, (2, 3, 4, 1)), legs(9)]), [0, 1, 1, 2, 1, 5])

    def test_refusals(self):
        self.assert_out_of_range(FALLING, legs, 1, GREATEST_KEY)
        self.assert_out_of_range([], legs, 1, GREATEST_KEY)
        self.assert_refused([], legs(1), -4)
        self.assert_refused(FALLING, legs(1), -4)
        self.assert_refused(FALLING, legs(GREATEST_KEY), -4)
        for gone in (cancel(9), go(9), settle()):
            self.assert_refused(FALLING + [gone], legs(9), -4)
        for key in (1, GREATEST_KEY):
            self.assertEqual(last(RICH + [group(key, (1, 2, 1, 5)), legs(key)]), [0, 1, 1, 2, 1, 5])


class WaitingTest(HouseCase):
    def test_none(self):
        self.assertEqual(ask([waiting()]), [[0]])
        self.assertEqual(last(THREE + [waiting()]), [0])

    def test_keys_rising(self):
        self.assertEqual(last(FALLING + [waiting()]), [3, 2, 5, 9])
        self.assertEqual(last(FALLING + [place(1, 9, 3), waiting()]), [3, 2, 5, 9])
        calls = RICH + [group(key, (1, 2, 1, 5)) for key in (GREATEST_KEY, 1, 10, 9)]
        self.assertEqual(last(calls + [waiting()]), [4, 1, 9, 10, GREATEST_KEY])

    def test_held_ones_and_those_that_cannot_go_wait_too(self):
        self.assertEqual(ask(FALLING + [hold(9, 1), ready(), waiting()])[-2:], [[0], [3, 2, 5, 9]])

    def test_behind_cancel_go_and_settle(self):
        self.assertEqual(last(FALLING + [cancel(5), waiting()]), [2, 2, 9])
        self.assertEqual(last(FALLING + [go(9), waiting()]), [2, 2, 5])
        self.assertEqual(last(FALLING + [settle(), waiting()]), [2, 2, 5])
        self.assertEqual(last(FALLING + [deposit(3, 1, 5), settle(), waiting()]), [0])
        self.assertEqual(last(FALLING + [go(9), group(9, (1, 2, 1, 5)), waiting()]), [3, 2, 5, 9])

    def test_twenty_four(self):
        calls = THREE + [group(key, (1, 2, 1, 5)) for key in range(24, 0, -1)]
        self.assertEqual(last(calls + [waiting()]), [24] + list(range(1, 25)))
        self.assertEqual(last(calls + [group(25, (1, 2, 1, 5)), waiting()]), [24] + list(range(1, 25)))
