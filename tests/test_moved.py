from tests.helper import GOODS, GREATEST_AMOUNT, HouseCase
from tests.helper import account, ask, cancel, deposit, go, group, hold, last, limit, moved, place, settle

FOUR = [account(1), account(2), account(3), account(4)]


class MovedTest(HouseCase):
    account_keys = (1, 2, 3, 4)

    def test_an_empty_greatest_set(self):
        for good in GOODS:
            self.assertEqual(last([moved(good)]), [0, 0])
            self.assertEqual(last(FOUR + [moved(good)]), [0, 0])
            self.assertEqual(last(FOUR + [group(1, (1, 2, good, 5)), moved(good)]), [0, 0])
            held = FOUR + [deposit(1, good, 9), group(1, (1, 2, good, 5)), hold(1, 1)]
            self.assertEqual(last(held + [moved(good)]), [0, 0])

    def test_one_leg(self):
        for good in GOODS:
            calls = FOUR + [deposit(1, good, 9), group(1, (1, 2, good, 5))]
            self.assertEqual(last(calls + [moved(good)]), [5, 5])
            self.assertEqual(last(calls + [moved(good % 4 + 1)]), [0, 0])

    def test_to_and_fro_between_two_groups(self):
        calls = FOUR + [deposit(1, 1, 2), group(1, (1, 2, 1, 5)), group(2, (2, 1, 1, 3))]
        self.assertEqual(last(calls + [moved(1)]), [8, 2])

    def test_to_and_fro_within_a_group(self):
        calls = FOUR + [deposit(2, 1, 4), group(1, (1, 2, 1, 5), (2, 1, 1, 3), (2, 1, 1, 6), (1, 2, 1, 1))]
        self.assertEqual(last(calls + [moved(1)]), [15, 3])
        calls = FOUR + [group(1, (1, 2, 1, 5), (2, 1, 1, 5))]
        self.assertEqual(last(calls + [moved(1)]), [10, 0])

    def test_round_a_ring(self):
        calls = FOUR + [group(1, (1, 2, 1, 5)), group(2, (2, 3, 1, 5)), group(3, (3, 1, 1, 5))]
        self.assertEqual(last(calls + [moved(1)]), [15, 0])

    def test_several_accounts_that_would_have_less(self):
        calls = FOUR + [deposit(1, 1, 9), deposit(2, 1, 9), limit(3, 1, 9)]
        calls += [group(1, (1, 4, 1, 2), (2, 4, 1, 3)), group(2, (3, 4, 1, 4)), group(3, (4, 1, 1, 1))]
        self.assertEqual(last(calls + [moved(1)]), [10, 8])

    def test_who_only_hands_on_does_not_count(self):
        calls = FOUR + [deposit(1, 1, 9), group(1, (1, 2, 1, 5)), group(2, (2, 3, 1, 5)), group(3, (3, 4, 1, 4))]
        self.assertEqual(last(calls + [moved(1)]), [14, 5])

    def test_legs_of_other_goods(self):
        calls = FOUR + [deposit(1, 1, 9), deposit(2, 3, 9), group(1, (1, 2, 1, 5), (2, 1, 3, 7), (1, 2, 1, 1))]
        self.assertEqual(ask(calls + [moved(good) for good in GOODS])[-4:], [[6, 6], [0, 0], [7, 7], [0, 0]])

    def test_only_the_greatest_set_counts(self):
        calls = FOUR + [deposit(1, 1, 9), group(1, (1, 2, 1, 5)), group(2, (1, 3, 1, 5)), group(3, (4, 3, 1, 1))]
        self.assertEqual(last(calls + [moved(1)]), [5, 5])
        self.assertEqual(last(calls + [deposit(1, 1, 1), moved(1)]), [10, 10])
        self.assertEqual(last(calls + [deposit(1, 1, 1), deposit(4, 1, 1), moved(1)]), [11, 11])
        self.assertEqual(last(calls + [hold(1, 1), moved(1)]), [0, 0])

    def test_behind_what_changes_the_house(self):
        calls = FOUR + [deposit(1, 1, 9), group(1, (1, 2, 1, 5)), group(2, (1, 3, 1, 7))]
        self.assertEqual(last(calls + [cancel(1), moved(1)]), [7, 7])
        self.assertEqual(last(calls + [place(1, 2, 1), moved(1)]), [7, 7])
        self.assertEqual(last(calls + [go(1), moved(1)]), [0, 0])
        self.assertEqual(last(calls + [settle(), deposit(1, 1, 3), moved(1)]), [7, 7])

    def test_as_much_as_a_line_can_move(self):
        to_and_fro = [(1, 2, 4, GREATEST_AMOUNT), (2, 1, 4, GREATEST_AMOUNT)] * 4
        calls = FOUR + [group(key, *to_and_fro) for key in range(1, 25)]
        self.assertEqual(last(calls + [moved(4)]), [192 * GREATEST_AMOUNT, 0])

    def test_out_of_range(self):
        calls = FOUR + [deposit(1, 1, 9), group(1, (1, 2, 1, 5))]
        self.assert_out_of_range(calls, moved, 1, 4)
        self.assert_out_of_range([], moved, 1, 4)
