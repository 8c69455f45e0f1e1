from tests.helper import FAR, GREATEST_AMOUNT, GREATEST_KEY, HouseCase
from tests.helper import account, ask, cancel, deposit, go, group, hold, last, limit, place, raw_group, ready
from tests.helper import settle, withdraw

THREE = [account(1), account(2), account(GREATEST_KEY)]
LEG = (1, 2, 1, 5)
ONE_GROUP = THREE + [group(1, LEG)]
FULL = THREE + [group(key, LEG) for key in range(1, 25)]


class GroupTest(HouseCase):
    def test_a_group_more(self):
        self.assert_answers(THREE + [group(9, LEG), group(4, (2, 1, 3, 1))], [[0]] * 5)

    def test_its_legs_are_done_as_told(self):
        calls = THREE + [
            deposit(1, 1, 100), deposit(1, 2, 100), deposit(2, 3, 100),
            group(1, (1, 2, 1, 7), (1, GREATEST_KEY, 2, 30), (2, GREATEST_KEY, 3, 1), (2, 1, 3, 2)),
            go(1),
            deposit(1, 1, 1), deposit(1, 2, 1), deposit(1, 3, 1), deposit(1, 4, 1),
            deposit(2, 1, 1), deposit(2, 2, 1), deposit(2, 3, 1), deposit(2, 4, 1),
            deposit(GREATEST_KEY, 1, 1), deposit(GREATEST_KEY, 2, 1), deposit(GREATEST_KEY, 3, 1),
            deposit(GREATEST_KEY, 4, 1),
        ]
        self.assertEqual(
            ask(calls)[7:],
            [[1], [94], [71], [3], [1], [8], [1], [98], [1], [1], [31], [2], [1]],
        )

    def test_it_is_not_held(self):
        self.assertEqual(last(ONE_GROUP + [hold(1, 1)]), [0])

    def test_it_is_the_last_one_in_each_row_that_it_touches(self):
        calls = THREE + [group(5, LEG), group(3, LEG), group(8, (GREATEST_KEY, 2, 1, 1))]
        self.assertEqual(last(calls + [place(1, 5, 1)]), [1])
        self.assertEqual(last(calls + [place(1, 3, 1)]), [2])
        self.assertEqual(last(calls + [place(1, 8, 1)]), [-7])
        self.assertEqual(last(calls + [place(2, 5, 1)]), [1])
        self.assertEqual(last(calls + [place(2, 3, 1)]), [2])
        self.assertEqual(last(calls + [place(2, 8, 1)]), [3])
        self.assertEqual(last(calls + [place(GREATEST_KEY, 8, 1)]), [1])
        self.assertEqual(last(calls + [place(GREATEST_KEY, 5, 1)]), [-7])

    def test_several_legs_at_an_account_stand_in_its_row_once(self):
        calls = THREE + [
            group(5, (1, 2, 1, 1), (1, 2, 2, 1), (2, 1, 3, 1), (1, GREATEST_KEY, 1, 1)),
            group(6, (1, 2, 1, 1), (GREATEST_KEY, 1, 1, 1)),
        ]
        for key in (1, 2, GREATEST_KEY):
            self.assertEqual(last(calls + [place(key, 6, 1)]), [2])
            self.assertEqual(ask(calls + [place(key, 6, 1), place(key, 5, 1), place(key, 6, 24)])[-3:],
                             [[2], [2], [2]])

    def test_the_same_leg_several_times(self):
        calls = THREE + [deposit(1, 1, 15), group(1, LEG, LEG, LEG), go(1), deposit(2, 1, 1), withdraw(1, 1, 1)]
        self.assertEqual(ask(calls)[-3:], [[1], [16], [-6]])

    def test_how_many_numbers_the_legs_have(self):
        numbers = list(LEG) * 10
        for count in (0, 1, 2, 3, 5, 6, 7, 30, 31, 33, 34, 35, 36, 37, 40):
            self.assert_refused(THREE, raw_group(1, numbers[:count]), -1)
        for count in (4, 8, 12, 16, 20, 24, 28, 32):
            self.assertEqual(last(THREE + [raw_group(1, numbers[:count])]), [0])
            filled = [deposit(1, 1, 100), raw_group(1, numbers[:count]), settle(), deposit(2, 1, 1)]
            self.assertEqual(last(THREE + filled), [count // 4 * 5 + 1])

    def test_ends_of_the_ranges(self):
        for key in (1, GREATEST_KEY):
            self.assertEqual(last(THREE + [group(key, LEG)]), [0])
        for leg in ((1, 2, 1, 1), (GREATEST_KEY, 1, 4, GREATEST_AMOUNT), (2, GREATEST_KEY, 1, GREATEST_AMOUNT)):
            self.assertEqual(last(THREE + [group(1, leg)]), [0])

    def test_out_of_range(self):
        self.assert_out_of_range(ONE_GROUP, lambda key: group(key, LEG), 1, GREATEST_KEY)
        for first in ([], [LEG], [LEG] * 7):
            self.assert_out_of_range(THREE, lambda key: group(3, *first, (key, 2, 1, 5)), 1, GREATEST_KEY)
            self.assert_out_of_range(THREE, lambda key: group(3, *first, (1, key, 1, 5)), 1, GREATEST_KEY)
            self.assert_out_of_range(THREE, lambda good: group(3, *first, (1, 2, good, 5)), 1, 4)
            self.assert_out_of_range(THREE, lambda amount: group(3, *first, (1, 2, 1, amount)), 1, GREATEST_AMOUNT)

    def test_a_leg_from_an_account_to_itself(self):
        self.assert_refused(THREE, group(1, (2, 2, 1, 5)), -3)
        self.assert_refused(THREE, group(1, LEG, (2, 1, 1, 5), (1, 1, 2, 1)), -3)
        self.assert_refused(THREE, group(1, (1, 1, 2, 1), LEG), -3)

    def test_key_taken(self):
        self.assert_refused(ONE_GROUP, group(1, (2, 1, 1, 5)), -2)

    def test_accounts_and_groups_have_keys_apart(self):
        self.assertEqual(last(THREE + [group(2, LEG)]), [0])
        self.assertEqual(last(ONE_GROUP + [group(3, LEG), account(3)]), [0])

    def test_no_such_account(self):
        self.assert_refused(THREE, group(1, (3, 1, 1, 5)), -4)
        self.assert_refused(THREE, group(1, (1, 3, 1, 5)), -4)
        self.assert_refused(THREE, group(1, LEG, LEG, (2, 3, 1, 5)), -4)
        self.assert_refused(ONE_GROUP, group(2, LEG, (4, 1, 1, 5)), -4)

    def test_the_twenty_fourth_and_the_twenty_fifth(self):
        self.assertEqual(ask(FULL)[3:], [[0]] * 24)
        self.assert_refused(FULL, group(25, LEG), -9)
        self.assert_refused(FULL, group(GREATEST_KEY, LEG), -9)
        self.assertEqual(last(FULL + [group(25, LEG), cancel(25)]), [-4])

    def test_room_again_behind_cancel_and_settle(self):
        self.assertEqual(last(FULL + [cancel(7), group(25, LEG)]), [0])
        self.assertEqual(last(FULL + [cancel(7), group(25, LEG), group(26, LEG)]), [-9])
        self.assertEqual(last(FULL + [deposit(1, 1, 5), settle(), group(25, LEG)]), [0])


class GroupOrderTest(HouseCase):
    """For every two refusals that can be due together, the one told first is answered."""

    def test_out_of_range_comes_first(self):
        self.assert_refused(THREE, group(0, (1, 1, 1, 5)), -1)
        self.assert_refused(THREE, group(1, (1, 1, 5, 5)), -1)
        self.assert_refused(THREE, group(1, (1, 1, 1, 5), (1, 2, 1, 0)), -1)
        self.assert_refused(THREE, group(1, (FAR, FAR, 1, 5)), -1)
        self.assert_refused(THREE, raw_group(1, [1, 1, 1, 5, 1]), -1)
        self.assert_refused(ONE_GROUP, group(1, (1, 2, 1, 0)), -1)
        self.assert_refused(ONE_GROUP, raw_group(1, []), -1)
        self.assert_refused(THREE, group(1, (3, 2, 5, 1)), -1)
        self.assert_refused(THREE, group(0, (3, 2, 1, 1)), -1)
        self.assert_refused(FULL, group(0, LEG), -1)
        self.assert_refused(FULL, group(25, (1, 2, 0, 5)), -1)
        self.assert_refused(FULL, raw_group(25, list(LEG) * 9), -1)

    def test_itself_comes_before_taken_missing_and_full(self):
        self.assert_refused(ONE_GROUP, group(1, LEG, (2, 2, 1, 5)), -3)
        self.assert_refused(THREE, group(1, (3, 1, 1, 5), (2, 2, 1, 5)), -3)
        self.assert_refused(THREE, group(1, (3, 3, 1, 5)), -3)
        self.assert_refused(FULL, group(25, (2, 2, 1, 5)), -3)

    def test_taken_comes_before_missing_and_full(self):
        self.assert_refused(ONE_GROUP, group(1, (3, 1, 1, 5)), -2)
        self.assert_refused(FULL, group(24, LEG), -2)

    def test_missing_comes_before_full(self):
        self.assert_refused(FULL, group(25, (3, 1, 1, 5)), -4)


class CancelTest(HouseCase):
    def test_the_group_is_not_there_any_more(self):
        calls = ONE_GROUP + [group(2, LEG), group(3, LEG), cancel(2)]
        self.assertEqual(last(calls), [0])
        self.assertEqual(last(calls + [cancel(2)]), [-4])
        self.assertEqual(last(calls + [go(2)]), [-4])
        self.assertEqual(last(calls + [place(1, 2, 1)]), [-4])

    def test_the_others_stay_in_their_rows(self):
        calls = ONE_GROUP + [group(2, LEG), group(3, LEG), cancel(2)]
        self.assertEqual(last(calls + [place(1, 1, 1)]), [1])
        self.assertEqual(last(calls + [place(1, 3, 1)]), [2])
        self.assertEqual(last(calls + [place(2, 3, 1)]), [2])

    def test_nothing_moves(self):
        calls = THREE + [deposit(1, 1, 9), group(1, LEG), cancel(1), deposit(1, 1, 1), deposit(2, 1, 1)]
        self.assertEqual(ask(calls)[-2:], [[10], [1]])

    def test_what_stood_behind_it_can_go(self):
        calls = THREE + [deposit(1, 2, 1), group(1, LEG), group(2, (1, 2, 2, 1))]
        self.assertEqual(last(calls + [ready()]), [0])
        self.assertEqual(last(calls + [cancel(1), ready()]), [1, 2])

    def test_a_held_group(self):
        self.assertEqual(last(ONE_GROUP + [hold(1, 1), cancel(1)]), [0])

    def test_the_key_is_free_again_and_not_held(self):
        calls = ONE_GROUP + [hold(1, 1), cancel(1), group(1, LEG), hold(1, 0)]
        self.assertEqual(ask(calls)[-2:], [[0], [0]])
        self.assertEqual(last(calls + [place(1, 1, 1)]), [1])

    def test_ends_of_the_key(self):
        calls = ONE_GROUP + [group(GREATEST_KEY, LEG)]
        self.assertEqual(last(calls + [cancel(1)]), [0])
        self.assertEqual(last(calls + [cancel(GREATEST_KEY)]), [0])

    def test_key_out_of_range_comes_before_no_such_group(self):
        self.assert_out_of_range(ONE_GROUP, cancel, 1, GREATEST_KEY)

    def test_no_such_group(self):
        self.assert_refused(ONE_GROUP, cancel(2), -4)
        self.assert_refused(ONE_GROUP, cancel(GREATEST_KEY), -4)


class LegsWithinOneGroupTest(HouseCase):
    def test_only_what_all_legs_do_together_counts(self):
        back_and_forth = THREE + [group(1, (1, 2, 1, 50), (2, 1, 1, 50))]
        self.assertEqual(last(back_and_forth + [go(1)]), [1])
        short_by_one = THREE + [group(1, (1, 2, 1, 50), (2, 1, 1, 49)), limit(2, 1, 9)]
        self.assertEqual(last(short_by_one + [go(1)]), [-8])
        self.assertEqual(last(short_by_one + [limit(1, 1, 1), go(1)]), [1])
