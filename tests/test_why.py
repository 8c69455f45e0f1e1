from tests.helper import GREATEST_AMOUNT, GREATEST_KEY, HouseCase
from tests.helper import account, ask, cancel, deposit, go, group, hold, last, limit, place, ready, settle, why
from tests.helper import withdraw


def accounts(*keys):
    return [account(key) for key in keys]


# All stand in one row behind another, and all could be paid.
ROW = accounts(1, 2) + [deposit(1, 1, 1000)] + [group(key, (1, 2, 1, 5)) for key in (1, 2, 3, 4)]
# Each stands behind the one before in another row; everybody has what they are to give.
STEPS = accounts(1, 2, 3, 4, 5) + [deposit(key, 1, 5) for key in (1, 2, 3, 4)]
STEPS += [group(1, (1, 2, 1, 5)), group(2, (2, 3, 1, 5)), group(3, (3, 4, 1, 5)), group(4, (4, 5, 1, 5))]


class WhyCase(HouseCase):
    account_keys = (1, 2, 3, 4, 5)
    group_keys = (1, 2, 3, 4, 5)

    def assert_why(self, calls, expected):
        """expected has for each group what why answers."""
        asked = [why(key) for key in expected]
        given = ask(calls + asked)[len(calls):]
        self.assertEqual(dict(zip(expected, given)), expected)


class HeldTest(WhyCase):
    def test_a_held_group(self):
        self.assert_why(ROW + [hold(4, 1)], {4: [0, 3, 0, 0]})
        self.assert_why(ROW + [hold(1, 1)], {1: [0, 3, 0, 0]})

    def test_a_held_group_behind_a_held_one(self):
        self.assert_why(ROW + [hold(1, 1), hold(3, 1)], {1: [0, 3, 0, 0], 3: [0, 3, 0, 0]})

    def test_a_held_group_that_nobody_could_pay(self):
        calls = accounts(1, 2) + [group(1, (1, 2, 1, 5)), group(2, (1, 2, 1, 5))]
        self.assert_why(calls + [hold(2, 1)], {1: [1, 1, 1, 1], 2: [0, 3, 0, 0]})
        self.assert_why(calls + [hold(1, 1), hold(2, 1)], {1: [0, 3, 0, 0], 2: [0, 3, 0, 0]})

    def test_held_no_more(self):
        self.assertEqual(last(ROW + [hold(1, 1), hold(1, 0), why(1)]), [-8])


class BehindAHeldOneTest(WhyCase):
    def test_in_one_row(self):
        self.assert_why(ROW + [hold(1, 1)], {2: [0, 2, 1, 1], 3: [0, 2, 1, 1], 4: [0, 2, 1, 1]})
        self.assert_why(ROW + [hold(3, 1)], {1: [-8], 2: [-8], 3: [0, 3, 0, 0], 4: [0, 2, 1, 3]})

    def test_in_one_row_after_another(self):
        expected = {1: [0, 3, 0, 0], 2: [0, 2, 2, 1], 3: [0, 2, 3, 2], 4: [0, 2, 4, 3]}
        self.assert_why(STEPS + [hold(1, 1)], expected)
        self.assert_why(STEPS + [hold(2, 1)], {1: [-8], 3: [0, 2, 3, 2], 4: [0, 2, 4, 3]})

    def test_the_first_one_of_several(self):
        self.assert_why(ROW + [hold(2, 1), hold(3, 1)], {4: [0, 2, 1, 2]})

    def test_by_the_rows_order_not_by_the_keys(self):
        calls = ROW + [place(1, 3, 2), hold(3, 1)]
        self.assert_why(calls, {1: [-8], 2: [0, 2, 1, 3], 4: [0, 2, 1, 3]})

    def test_the_lowest_account_of_several_rows(self):
        calls = accounts(5, 3, 4) + [group(7, (3, 5, 1, 1)), group(2, (4, 5, 1, 1))]
        calls += [group(6, (5, 4, 2, 1), (3, 4, 2, 1))]
        self.assert_why(calls + [hold(7, 1), hold(2, 1)], {6: [0, 2, 3, 7]})
        self.assert_why(calls + [hold(2, 1), deposit(3, 1, 1)], {7: [-8], 6: [0, 2, 4, 2]})

    def test_what_stands_behind_in_the_lowest_row_does_not_count(self):
        calls = accounts(1, 2) + [group(1, (1, 2, 1, 1)), group(2, (1, 2, 1, 1)), place(2, 2, 1), hold(2, 1)]
        self.assert_why(calls, {1: [0, 2, 2, 2]})

    def test_one_that_could_not_be_paid_either(self):
        calls = accounts(1, 2) + [group(1, (1, 2, 1, 5)), group(2, (1, 2, 1, 5)), hold(1, 1)]
        self.assert_why(calls, {2: [0, 2, 1, 1]})

    def test_of_two_that_are_out_the_first_in_the_lowest_row(self):
        # Group 3 is behind 1, and 4 behind 3 and 1; in the row of account 1 group 3 is the first that's out.
        calls = accounts(1, 2, 3) + [group(1, (2, 3, 1, 1)), group(3, (2, 1, 1, 1)), group(4, (1, 2, 1, 1)), hold(1, 1)]
        self.assert_why(calls, {3: [0, 2, 2, 1], 4: [0, 2, 1, 3]})


class CulpritTest(WhyCase):
    def test_of_the_set_of_round_0(self):
        for good in (1, 2, 3, 4):
            self.assert_why(accounts(1, 2) + [group(1, (1, 2, good, 5))], {1: [1, 1, 1, good]})
            self.assert_why(accounts(1, 2) + [group(1, (2, 1, good, 5))], {1: [1, 1, 2, good]})

    def test_of_a_later_round(self):
        calls = accounts(1, 2) + [group(key, (1, 2, 1, 5)) for key in (1, 2, 3, 4)]
        self.assert_why(calls, {1: [4, 1, 1, 1], 2: [3, 1, 1, 1], 3: [2, 1, 1, 1], 4: [1, 1, 1, 1]})
        self.assert_why(calls + [deposit(1, 1, 9)], {1: [-8], 2: [3, 1, 1, 1], 3: [2, 1, 1, 1], 4: [1, 1, 1, 1]})
        self.assert_why(calls + [deposit(1, 1, 15)], {1: [-8], 2: [-8], 3: [-8], 4: [1, 1, 1, 1]})
        self.assert_why(calls + [hold(2, 1)], {1: [1, 1, 1, 1], 3: [0, 2, 1, 2], 4: [0, 2, 1, 2]})

    def test_twenty_four_rounds(self):
        calls = accounts(1, 2) + [group(key, (1, 2, 1, GREATEST_AMOUNT)) for key in range(1, 25)]
        self.assert_why(calls, {key: [25 - key, 1, 1, 1] for key in range(1, 25)})

    def test_the_last_one_by_the_row_not_by_the_keys(self):
        calls = accounts(1, 2) + [deposit(1, 1, 5), group(1, (1, 2, 1, 5)), group(2, (1, 2, 1, 5)), place(1, 1, 2)]
        # In the other row group 1 still stands before group 2, which so can't go without it.
        self.assert_why(calls, {1: [1, 1, 1, 1], 2: [1, 2, 2, 1]})
        self.assert_why(calls + [place(2, 1, 2)], {1: [1, 1, 1, 1], 2: [-8]})

    def test_one_that_gives_to_who_is_short(self):
        calls = accounts(1, 2) + [group(1, (1, 2, 1, 5)), group(2, (2, 1, 1, 3))]
        self.assert_why(calls, {1: [2, 1, 1, 1], 2: [1, 1, 1, 1]})

    def test_all_culprits_of_a_round_are_out_at_once(self):
        calls = accounts(1, 2, 3, 4) + [group(1, (1, 2, 1, 5)), group(2, (1, 2, 1, 5)), group(3, (3, 4, 2, 5))]
        self.assert_why(calls, {1: [2, 1, 1, 1], 2: [1, 1, 1, 1], 3: [1, 1, 3, 2]})

    def test_short_only_once_another_is_out(self):
        # Account 2 hands on what group 1 is to bring; once group 1 is out it's short of that.
        calls = accounts(1, 2, 3) + [group(1, (1, 2, 1, 5)), group(2, (2, 3, 1, 5)), place(2, 2, 1)]
        self.assert_why(calls, {1: [1, 1, 1, 1], 2: [2, 1, 2, 1]})

    def test_the_lowest_of_several_short_accounts(self):
        calls = accounts(5, 2, 4) + [group(1, (5, 2, 1, 5), (4, 2, 3, 5))]
        self.assert_why(calls, {1: [1, 1, 4, 3]})
        self.assert_why(calls + [deposit(4, 3, 5)], {1: [1, 1, 5, 1]})

    def test_only_an_account_whose_last_one_it_is(self):
        calls = accounts(1, 2, 3) + [group(1, (1, 3, 1, 5), (2, 3, 1, 5)), group(2, (1, 3, 1, 5))]
        self.assert_why(calls, {1: [1, 1, 2, 1], 2: [1, 1, 1, 1]})

    def test_only_an_account_that_is_short(self):
        calls = accounts(1, 2, 3) + [deposit(1, 1, 5), group(1, (1, 3, 1, 5), (2, 3, 1, 5))]
        self.assert_why(calls, {1: [1, 1, 2, 1]})

    def test_the_lowest_good_of_several(self):
        calls = accounts(1, 2) + [group(1, (1, 2, 4, 1), (1, 2, 2, 1), (1, 2, 3, 1), (2, 1, 1, 1)), deposit(2, 1, 1)]
        self.assert_why(calls, {1: [1, 1, 1, 2]})
        self.assert_why(calls + [limit(1, 2, 1)], {1: [1, 1, 1, 3]})
        self.assert_why(calls + [limit(1, 2, 1), deposit(1, 3, 1)], {1: [1, 1, 1, 4]})
        self.assert_why(calls + [limit(1, 2, 1), deposit(1, 3, 1), deposit(1, 4, 1)], {1: [-8]})

    def test_a_good_that_an_earlier_group_takes(self):
        # The last one is the culprit, also of a good that it doesn't touch.
        calls = accounts(1, 2) + [deposit(1, 1, 1), group(1, (1, 2, 3, 5)), group(2, (1, 2, 1, 1))]
        self.assert_why(calls, {1: [2, 1, 1, 3], 2: [1, 1, 1, 3]})

    def test_short_by_one_below_the_limit(self):
        calls = accounts(1, 2) + [limit(1, 1, 5), group(1, (1, 2, 1, 5))]
        self.assert_why(calls, {1: [-8]})
        self.assert_why(calls + [limit(1, 1, 4)], {1: [1, 1, 1, 1]})
        self.assert_why(calls + [withdraw(1, 1, 1)], {1: [1, 1, 1, 1]})

    def test_a_culprit_that_is_behind_another_one(self):
        calls = accounts(1, 2, 3, 4) + [group(1, (2, 3, 1, 5)), group(2, (3, 4, 2, 5))]
        self.assert_why(calls, {1: [1, 1, 2, 1], 2: [1, 1, 3, 2]})
        self.assert_why(calls + [deposit(3, 2, 5)], {1: [1, 1, 2, 1], 2: [1, 2, 3, 1]})

    def test_a_culprit_of_a_later_round_that_is_behind_another_one(self):
        calls = accounts(1, 2, 3, 4) + [group(1, (1, 2, 1, 5)), group(3, (3, 2, 2, 5))]
        calls += [group(2, (1, 2, 1, 5)), group(4, (3, 4, 3, 1))]
        # The culprits 2 and 4 go first, then 1 and 3, of which 3 stands behind 1 in the row of account 2.
        self.assert_why(calls, {1: [2, 1, 1, 1], 2: [1, 1, 1, 1], 3: [2, 1, 3, 2], 4: [1, 1, 3, 2]})


class BehindACulpritTest(WhyCase):
    def test_behind_a_culprit(self):
        calls = accounts(1, 2, 3, 4) + [deposit(2, 2, 1), deposit(3, 3, 1)]
        calls += [group(5, (1, 2, 1, 5)), group(4, (2, 3, 2, 1)), group(3, (3, 4, 3, 1))]
        self.assert_why(calls, {5: [1, 1, 1, 1], 4: [1, 2, 2, 5], 3: [1, 2, 3, 4]})

    def test_behind_a_culprit_of_a_later_round(self):
        calls = accounts(1, 2, 3) + [deposit(2, 2, 1)]
        calls += [group(1, (1, 3, 1, 5), (2, 3, 2, 1)), group(2, (1, 3, 1, 5)), group(3, (2, 3, 2, 1))]
        # Group 3 is the last one of account 2, which is short of good 2 by group 1 and group 3 together.
        self.assert_why(calls, {1: [2, 1, 1, 1], 2: [1, 1, 1, 1], 3: [1, 1, 2, 2]})
        # Account 2 has enough now, but group 2 is ahead in the row of account 3.
        self.assert_why(calls + [deposit(2, 2, 1)], {1: [2, 1, 1, 1], 2: [1, 1, 1, 1], 3: [1, 2, 3, 2]})
        self.assert_why(
            calls + [deposit(2, 2, 1), place(3, 3, 2)],
            {1: [2, 1, 1, 1], 2: [1, 1, 1, 1], 3: [2, 2, 2, 1]},
        )

    def test_the_lowest_row_may_have_one_that_is_no_culprit_ahead(self):
        calls = accounts(1, 4, 5) + [deposit(4, 2, 1), deposit(1, 3, 1)]
        calls += [group(3, (5, 4, 1, 5)), group(2, (4, 1, 2, 1)), group(1, (1, 4, 3, 1))]
        self.assert_why(calls, {3: [1, 1, 5, 1], 2: [1, 2, 4, 3], 1: [1, 2, 1, 2]})

    def test_the_first_of_that_row_that_is_not_in_that_rounds_set(self):
        # Of the row 1, 2, 3, 4 of account 2 the groups 2 and 3 are culprits, each of an account of its own.
        calls = accounts(1, 2, 3, 4) + [deposit(1, 1, 5), deposit(2, 2, 1)]
        calls += [group(1, (1, 2, 1, 5)), group(2, (3, 2, 1, 5)), group(3, (4, 2, 1, 5)), group(5, (2, 1, 2, 1))]
        self.assert_why(calls, {1: [-8], 2: [1, 1, 3, 1], 3: [1, 1, 4, 1], 5: [1, 2, 2, 2]})
        self.assert_why(calls + [place(2, 3, 1)], {1: [1, 2, 2, 3], 5: [1, 2, 1, 1]})


class WhyTest(WhyCase):
    group_keys = (1, 2, 3, 4, 5, GREATEST_KEY)

    def test_in_the_greatest_set(self):
        for key in (1, 2, 3, 4):
            self.assert_refused(ROW, why(key), -8)
            self.assert_refused(STEPS, why(key), -8)
        self.assert_refused(ROW + [hold(3, 1)], why(2), -8)

    def test_together_but_not_one_after_another(self):
        ring = accounts(1, 2, 3) + [group(1, (1, 2, 1, 5)), group(2, (2, 3, 1, 5)), group(3, (3, 1, 1, 5))]
        for key in (1, 2, 3):
            self.assert_refused(ring, why(key), -8)
        self.assert_why(ring + [cancel(2)], {1: [2, 1, 1, 1], 3: [1, 1, 3, 1]})

    def test_out_of_range(self):
        self.assert_out_of_range(ROW, why, 1, GREATEST_KEY)
        self.assert_out_of_range([], why, 1, GREATEST_KEY)

    def test_ends_of_the_keys(self):
        calls = accounts(1, GREATEST_KEY)
        calls += [group(1, (1, GREATEST_KEY, 1, 5)), group(GREATEST_KEY, (GREATEST_KEY, 1, 2, 5))]
        self.assert_why(calls, {1: [2, 1, 1, 1], GREATEST_KEY: [1, 1, 1, 1]})
        self.assert_why(calls + [hold(1, 1)], {1: [0, 3, 0, 0], GREATEST_KEY: [0, 2, 1, 1]})

    def test_no_such_group(self):
        self.assert_refused([], why(1), -4)
        self.assert_refused(ROW, why(5), -4)
        self.assert_refused(ROW, why(GREATEST_KEY), -4)
        # An account's key is no group's.
        self.assert_refused(accounts(1), why(1), -4)
        for gone in (cancel(1), go(1), settle()):
            self.assert_refused(ROW + [gone], why(1), -4)

    def test_behind_what_changes_the_house(self):
        calls = accounts(1, 2) + [group(1, (1, 2, 1, 5)), group(2, (1, 2, 2, 5)), deposit(1, 2, 5)]
        self.assert_why(calls, {1: [2, 1, 1, 1], 2: [1, 1, 1, 1]})
        self.assert_why(calls + [cancel(1)], {2: [-8]})
        self.assert_why(calls + [place(1, 2, 1)], {1: [1, 1, 1, 1], 2: [1, 2, 2, 1]})
        self.assert_why(calls + [place(1, 2, 1), place(2, 2, 1)], {1: [1, 1, 1, 1], 2: [-8]})
        self.assert_why(calls + [place(1, 2, 1), place(2, 2, 1), settle()], {1: [1, 1, 1, 1], 2: [-4]})
        self.assert_why(calls + [deposit(1, 1, 5)], {1: [-8], 2: [-8]})

    def test_whatever_is_not_ready_has_a_reason(self):
        for calls in (ROW, STEPS, ROW + [hold(2, 1)], STEPS + [hold(3, 1)]):
            set_now = last(calls + [ready()])[1:]
            for key in (1, 2, 3, 4):
                self.assertEqual(last(calls + [why(key)]) == [-8], key in set_now)
