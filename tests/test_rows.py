from tests.helper import GREATEST_KEY, HouseCase, account, ask, cancel, deposit, go, group, hold, last, place, ready

TWO = [account(1), account(2), account(GREATEST_KEY)]
LEG = (1, 2, 1, 1)
ONE_GROUP = TWO + [deposit(1, 1, 100), group(1, LEG)]
FIVE = TWO + [deposit(1, 1, 100)] + [group(key, LEG) for key in (11, 12, 13, 14, 15)]


def row_behind(calls, account_key, keys):
    """The row's order, read by asking each group's place on its own."""
    places = {}
    for key in keys:
        places[last(calls + [place(account_key, key, 1)])[0]] = key
    return [places[n] for n in sorted(places)]


class HoldTest(HouseCase):
    def test_answers_whether_it_was_held(self):
        self.assertEqual(
            ask(ONE_GROUP + [hold(1, 0), hold(1, 1), hold(1, 1), hold(1, 0), hold(1, 0)])[5:],
            [[0], [0], [1], [1], [0]],
        )

    def test_a_held_group_cannot_go_until_it_is_not_held(self):
        held = ONE_GROUP + [hold(1, 1)]
        self.assertEqual(last(held + [ready()]), [0])
        self.assertEqual(last(held + [go(1)]), [-8])
        self.assertEqual(last(held + [hold(1, 0), ready()]), [1, 1])
        self.assertEqual(last(held + [hold(1, 0), go(1)]), [1])

    def test_one_group_is_held_by_itself(self):
        self.assertEqual(ask(FIVE + [hold(13, 1), hold(12, 0), hold(13, 0)])[-3:], [[0], [0], [1]])

    def test_ends_of_the_ranges(self):
        calls = ONE_GROUP + [group(GREATEST_KEY, LEG)]
        for key in (1, GREATEST_KEY):
            for held in (0, 1):
                self.assertEqual(last(calls + [hold(key, held)]), [0])

    def test_out_of_range(self):
        for held in (0, 1):
            calls = ONE_GROUP + [hold(1, held)]
            self.assert_out_of_range(calls, lambda key: hold(key, 1), 1, GREATEST_KEY)
            self.assert_out_of_range(calls, lambda number: hold(1, number), 0, 1)

    def test_no_such_group(self):
        self.assert_refused(ONE_GROUP, hold(2, 1), -4)
        self.assert_refused(ONE_GROUP, hold(GREATEST_KEY, 0), -4)

    def test_out_of_range_comes_first(self):
        self.assert_refused(ONE_GROUP, hold(2, 2), -1)
        self.assert_refused(ONE_GROUP, hold(2, -1), -1)
        self.assert_refused(ONE_GROUP, hold(0, 1), -1)


class PlaceTest(HouseCase):
    account_keys = (1, 2, GREATEST_KEY)
    group_keys = (1, 11, 12, 13, 14, 15, GREATEST_KEY)

    def moved(self, key, n):
        return row_behind(FIVE + [place(1, key, n)], 1, (11, 12, 13, 14, 15))

    def test_answers_the_place_before(self):
        for before, key in enumerate((11, 12, 13, 14, 15), start=1):
            for n in (1, 2, 3, 4, 5, 6, 24):
                self.assertEqual(last(FIVE + [place(1, key, n)]), [before])

    def test_to_the_first_place(self):
        self.assertEqual(self.moved(11, 1), [11, 12, 13, 14, 15])
        self.assertEqual(self.moved(13, 1), [13, 11, 12, 14, 15])
        self.assertEqual(self.moved(15, 1), [15, 11, 12, 13, 14])

    def test_to_a_middle_place(self):
        self.assertEqual(self.moved(11, 2), [12, 11, 13, 14, 15])
        self.assertEqual(self.moved(11, 3), [12, 13, 11, 14, 15])
        self.assertEqual(self.moved(12, 4), [11, 13, 14, 12, 15])
        self.assertEqual(self.moved(13, 3), [11, 12, 13, 14, 15])
        self.assertEqual(self.moved(15, 2), [11, 15, 12, 13, 14])

    def test_to_the_last_place(self):
        self.assertEqual(self.moved(11, 5), [12, 13, 14, 15, 11])
        self.assertEqual(self.moved(14, 5), [11, 12, 13, 15, 14])
        self.assertEqual(self.moved(15, 5), [11, 12, 13, 14, 15])

    def test_beyond_the_row(self):
        for n in (6, 7, 24):
            self.assertEqual(self.moved(11, n), [12, 13, 14, 15, 11])
            self.assertEqual(self.moved(13, n), [11, 12, 14, 15, 13])
            self.assertEqual(self.moved(15, n), [11, 12, 13, 14, 15])

    def test_another_account_keeps_its_row(self):
        self.assertEqual(row_behind(FIVE + [place(1, 15, 1)], 2, (11, 12, 13, 14, 15)), [11, 12, 13, 14, 15])
        self.assertEqual(row_behind(FIVE + [place(2, 15, 1)], 1, (11, 12, 13, 14, 15)), [11, 12, 13, 14, 15])

    def test_a_new_group_comes_behind_the_placed_ones(self):
        calls = FIVE + [place(1, 11, 24), group(16, LEG)]
        self.assertEqual(row_behind(calls, 1, (11, 12, 13, 14, 15, 16)), [12, 13, 14, 15, 11, 16])

    def test_a_full_row(self):
        full = TWO + [group(key, LEG) for key in range(101, 125)]
        self.assertEqual(ask(full + [place(1, 101, 24), place(1, 101, 23), place(1, 101, 1)])[-3:],
                         [[1], [24], [23]])

    def test_the_only_group_of_a_row(self):
        self.assertEqual(ask(ONE_GROUP + [place(1, 1, 1), place(1, 1, 24), place(1, 1, 2)])[-3:], [[1], [1], [1]])

    def test_what_can_go_follows_the_row(self):
        calls = TWO + [deposit(1, 2, 1), group(11, LEG), group(12, (1, 2, 2, 1))]
        self.assertEqual(last(calls + [ready()]), [0])
        self.assertEqual(last(calls + [place(1, 12, 1), ready()]), [0])
        self.assertEqual(last(calls + [place(1, 12, 1), place(2, 12, 1), ready()]), [1, 12])

    def test_ends_of_the_ranges(self):
        calls = TWO + [group(1, (1, GREATEST_KEY, 1, 1)), group(GREATEST_KEY, (1, GREATEST_KEY, 1, 1))]
        for key in (1, GREATEST_KEY):
            for n in (1, 24):
                self.assertEqual(last(calls + [place(key, 1, n)]), [1])
                self.assertEqual(last(calls + [place(key, GREATEST_KEY, n)]), [2])

    def test_out_of_range(self):
        self.assert_out_of_range(FIVE, lambda key: place(key, 11, 3), 1, GREATEST_KEY)
        self.assert_out_of_range(FIVE, lambda key: place(1, key, 3), 1, GREATEST_KEY)
        self.assert_out_of_range(FIVE, lambda n: place(1, 11, n), 1, 24)

    def test_no_such_account_or_group(self):
        self.assert_refused(FIVE, place(3, 11, 1), -4)
        self.assert_refused(FIVE, place(1, 16, 1), -4)
        self.assert_refused(FIVE, place(3, 16, 1), -4)
        self.assert_refused(FIVE + [cancel(13)], place(1, 13, 1), -4)

    def test_a_group_that_does_not_touch_the_account(self):
        self.assert_refused(FIVE, place(GREATEST_KEY, 11, 1), -7)
        self.assert_refused(FIVE + [group(1, (1, GREATEST_KEY, 1, 1))], place(2, 1, 1), -7)

    def test_out_of_range_comes_before_missing_and_untouched(self):
        self.assert_refused(FIVE, place(3, 11, 0), -1)
        self.assert_refused(FIVE, place(1, 16, 25), -1)
        self.assert_refused(FIVE, place(3, 0, 1), -1)
        self.assert_refused(FIVE, place(GREATEST_KEY, 11, 0), -1)
        self.assert_refused(FIVE, place(GREATEST_KEY, 11, 25), -1)

    def test_missing_comes_before_untouched(self):
        self.assert_refused(FIVE, place(GREATEST_KEY, 16, 1), -4)
        self.assert_refused(FIVE, place(3, 11, 24), -4)
