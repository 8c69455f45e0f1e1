from tests.helper import GREATEST_AFTER_DEPOSIT, GREATEST_AMOUNT, GREATEST_KEY, HouseCase
from tests.helper import account, deposit, go, group, last, limit, withdraw

TWO = [account(1), account(GREATEST_KEY)]
FULL = TWO + [deposit(1, 1, GREATEST_AMOUNT)] * 10
# A leg brings more than a deposit may.
LOADED = FULL + [limit(GREATEST_KEY, 1, GREATEST_AMOUNT), group(1, (GREATEST_KEY, 1, 1, GREATEST_AMOUNT)), go(1)]
OWING = TWO + [limit(1, 2, 10), withdraw(1, 2, 6)]


class DepositTest(HouseCase):
    def test_answers_what_the_account_has_then(self):
        self.assert_answers(
            TWO + [deposit(1, 2, 5), deposit(1, 2, 7), deposit(1, 3, 1)],
            [[0], [0], [5], [12], [1]],
        )

    def test_below_nothing_is_no_refusal(self):
        self.assert_answers(OWING + [deposit(1, 2, 1), deposit(1, 2, 2), deposit(1, 2, 3)],
                            [[0], [0], [0], [-6], [-5], [-3], [0]])

    def test_ends_of_the_ranges(self):
        self.assertEqual(last(TWO + [deposit(1, 1, 1)]), [1])
        self.assertEqual(last(TWO + [deposit(GREATEST_KEY, 4, GREATEST_AMOUNT)]), [GREATEST_AMOUNT])

    def test_out_of_range(self):
        before = TWO + [deposit(1, 1, 3)]
        self.assert_out_of_range(before, lambda key: deposit(key, 1, 1), 1, GREATEST_KEY)
        self.assert_out_of_range(before, lambda good: deposit(1, good, 1), 1, 4)
        self.assert_out_of_range(before, lambda amount: deposit(1, 1, amount), 1, GREATEST_AMOUNT)

    def test_no_such_account(self):
        self.assert_refused(TWO, deposit(2, 1, 1), -4)

    def test_just_the_most_and_one_beyond(self):
        self.assertEqual(last(FULL), [GREATEST_AFTER_DEPOSIT])
        self.assert_refused(FULL, deposit(1, 1, 1), -5)
        self.assert_refused(FULL, deposit(1, 1, GREATEST_AMOUNT), -5)
        nearly = FULL + [withdraw(1, 1, 5)]
        self.assertEqual(last(nearly + [deposit(1, 1, 4)]), [GREATEST_AFTER_DEPOSIT - 1])
        self.assertEqual(last(nearly + [deposit(1, 1, 5)]), [GREATEST_AFTER_DEPOSIT])
        self.assert_refused(nearly, deposit(1, 1, 6), -5)

    def test_the_most_is_of_one_good_in_one_account(self):
        self.assertEqual(last(FULL + [deposit(1, 2, 1)]), [1])
        self.assertEqual(last(FULL + [deposit(GREATEST_KEY, 1, 1)]), [1])

    def test_a_group_may_bring_more_than_a_deposit_may(self):
        self.assertEqual(last(LOADED), [1])
        self.assert_refused(LOADED, deposit(1, 1, 1), -5)
        self.assertEqual(last(LOADED + [withdraw(1, 1, 1)]), [GREATEST_AFTER_DEPOSIT + GREATEST_AMOUNT - 1])

    def test_out_of_range_comes_first(self):
        self.assert_refused(TWO, deposit(2, 5, 1), -1)
        self.assert_refused(TWO, deposit(2, 1, 0), -1)
        self.assert_refused(FULL, deposit(1, 1, GREATEST_AMOUNT + 1), -1)


class WithdrawTest(HouseCase):
    def test_answers_what_the_account_has_then(self):
        self.assert_answers(
            TWO + [deposit(1, 2, 5), withdraw(1, 2, 3), withdraw(1, 2, 2)],
            [[0], [0], [5], [2], [0]],
        )

    def test_just_at_the_limit_and_one_beyond(self):
        before = TWO + [deposit(1, 3, 5), limit(1, 3, 4)]
        self.assertEqual(last(before + [withdraw(1, 3, 8)]), [-3])
        self.assertEqual(last(before + [withdraw(1, 3, 9)]), [-4])
        self.assert_refused(before, withdraw(1, 3, 10), -6)
        self.assert_refused(before + [withdraw(1, 3, 9)], withdraw(1, 3, 1), -6)

    def test_without_a_limit_nothing_is_the_least(self):
        before = TWO + [deposit(1, 3, 5)]
        self.assertEqual(last(before + [withdraw(1, 3, 5)]), [0])
        self.assert_refused(before, withdraw(1, 3, 6), -6)

    def test_the_greatest_limit(self):
        before = TWO + [limit(1, 1, GREATEST_AMOUNT)]
        self.assertEqual(last(before + [withdraw(1, 1, GREATEST_AMOUNT)]), [-GREATEST_AMOUNT])
        self.assert_refused(before + [withdraw(1, 1, GREATEST_AMOUNT)], withdraw(1, 1, 1), -6)

    def test_below_nothing_is_no_refusal(self):
        # Each of these answers looks like a refusal, and each withdrawal is done all the same.
        calls = TWO + [limit(1, 1, 9)] + [withdraw(1, 1, 1)] * 10
        self.assert_answers(calls, [[0], [0], [0]] + [[-n] for n in range(1, 10)] + [[-6]])

    def test_the_limit_is_of_one_good_in_one_account(self):
        before = TWO + [limit(1, 1, 5), limit(GREATEST_KEY, 2, 5)]
        self.assert_refused(before, withdraw(1, 2, 1), -6)
        self.assert_refused(before, withdraw(GREATEST_KEY, 1, 1), -6)
        self.assertEqual(last(before + [withdraw(GREATEST_KEY, 2, 5)]), [-5])

    def test_ends_of_the_ranges(self):
        before = TWO + [deposit(1, 1, 1), deposit(GREATEST_KEY, 4, GREATEST_AMOUNT)]
        self.assertEqual(last(before + [withdraw(1, 1, 1)]), [0])
        self.assertEqual(last(before + [withdraw(GREATEST_KEY, 4, GREATEST_AMOUNT)]), [0])

    def test_out_of_range(self):
        before = TWO + [deposit(1, 1, GREATEST_AMOUNT), deposit(1, 1, GREATEST_AMOUNT)]
        self.assert_out_of_range(before, lambda key: withdraw(key, 1, 1), 1, GREATEST_KEY)
        self.assert_out_of_range(before, lambda good: withdraw(1, good, 1), 1, 4)
        self.assert_out_of_range(before, lambda amount: withdraw(1, 1, amount), 1, GREATEST_AMOUNT)

    def test_no_such_account(self):
        self.assert_refused(TWO, withdraw(2, 1, 1), -4)

    def test_out_of_range_comes_first(self):
        self.assert_refused(TWO, withdraw(2, 0, 1), -1)
        self.assert_refused(TWO, withdraw(2, 1, -1), -1)
        self.assert_refused(TWO, withdraw(1, 1, GREATEST_AMOUNT + 1), -1)


class LimitTest(HouseCase):
    def test_answers_the_limit_before(self):
        self.assert_answers(
            TWO + [limit(1, 2, 5), limit(1, 2, 9), limit(1, 2, 0), limit(1, 2, 0)],
            [[0], [0], [0], [5], [9], [0]],
        )

    def test_it_holds_from_now_on(self):
        before = TWO + [limit(1, 2, 5), limit(1, 2, 3)]
        self.assertEqual(last(before + [withdraw(1, 2, 3)]), [-3])
        self.assert_refused(before, withdraw(1, 2, 4), -6)

    def test_just_at_what_the_account_owes_and_one_below(self):
        self.assertEqual(last(OWING), [-6])
        self.assertEqual(last(OWING + [limit(1, 2, 7)]), [10])
        self.assertEqual(last(OWING + [limit(1, 2, 6)]), [10])
        self.assertEqual(last(OWING + [limit(1, 2, 6), limit(1, 2, 11)]), [6])
        self.assert_refused(OWING, limit(1, 2, 5), -6)
        self.assert_refused(OWING, limit(1, 2, 0), -6)

    def test_a_refused_limit_leaves_the_one_before(self):
        self.assertEqual(last(OWING + [limit(1, 2, 5), limit(1, 2, 20)]), [10])

    def test_ends_of_the_ranges(self):
        self.assertEqual(last(TWO + [limit(1, 1, 0)]), [0])
        self.assertEqual(last(TWO + [limit(GREATEST_KEY, 4, GREATEST_AMOUNT), limit(GREATEST_KEY, 4, 1)]),
                         [GREATEST_AMOUNT])

    def test_out_of_range(self):
        before = TWO + [limit(1, 1, 3)]
        self.assert_out_of_range(before, lambda key: limit(key, 1, 1), 1, GREATEST_KEY)
        self.assert_out_of_range(before, lambda good: limit(1, good, 1), 1, 4)
        self.assert_out_of_range(before, lambda amount: limit(1, 1, amount), 0, GREATEST_AMOUNT)

    def test_no_such_account(self):
        self.assert_refused(TWO, limit(2, 1, 0), -4)

    def test_out_of_range_comes_first(self):
        self.assert_refused(TWO, limit(2, 5, 0), -1)
        self.assert_refused(TWO, limit(2, 1, GREATEST_AMOUNT + 1), -1)
        self.assert_refused(OWING, limit(1, 2, -1), -1)
