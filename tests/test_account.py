from tests.helper import GREATEST_KEY, HouseCase, account, ask, deposit, last, limit, place, ready, withdraw

EIGHT = [account(key) for key in range(1, 9)]


class AccountTest(HouseCase):
    account_keys = tuple(range(1, 11)) + (GREATEST_KEY,)

    def test_an_account_more(self):
        self.assert_answers([account(7), account(3)], [[0], [0]])

    def test_a_new_account_has_nothing_and_limits_of_nothing(self):
        for good in (1, 2, 3, 4):
            self.assert_answers(
                [account(5), withdraw(5, good, 1), limit(5, good, 0), deposit(5, good, 1)],
                [[0], [-6], [0], [1]],
            )

    def test_accounts_keep_their_goods_apart(self):
        calls = [account(1), account(2)]
        expected = [[0], [0]]
        for good in (1, 2, 3, 4):
            calls += [deposit(1, good, 10 * good), deposit(2, good, 100 * good)]
            expected += [[10 * good], [100 * good]]
        for good in (1, 2, 3, 4):
            calls += [limit(1, good, good), limit(2, good, 5 + good)]
            expected += [[0], [0]]
        for good in (1, 2, 3, 4):
            calls += [withdraw(1, good, 1), withdraw(2, good, 1), limit(1, good, 0), limit(2, good, 0)]
            expected += [[10 * good - 1], [100 * good - 1], [good], [5 + good]]
        self.assert_answers(calls, expected)

    def test_a_new_row_is_empty(self):
        self.assert_answers([account(1), ready(), place(1, 1, 1)], [[0], [0], [-4]])

    def test_ends_of_the_key(self):
        self.assert_answers([account(1), account(GREATEST_KEY)], [[0], [0]])

    def test_key_out_of_range(self):
        self.assert_out_of_range([account(2)], account, 1, GREATEST_KEY)

    def test_key_taken(self):
        self.assert_refused([account(1), account(2), deposit(1, 1, 5)], account(1), -2)

    def test_the_eighth_and_the_ninth(self):
        self.assertEqual(ask(EIGHT), [[0]] * 8)
        self.assert_refused(EIGHT, account(9), -9)
        self.assert_refused(EIGHT, account(GREATEST_KEY), -9)

    def test_out_of_range_comes_before_full(self):
        self.assert_refused(EIGHT, account(0), -1)

    def test_taken_comes_before_full(self):
        self.assert_refused(EIGHT, account(8), -2)

    def test_a_refused_account_is_not_there(self):
        self.assertEqual(last(EIGHT + [account(9), deposit(9, 1, 1)]), [-4])
