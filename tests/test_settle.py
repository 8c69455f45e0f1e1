from tests.helper import HouseCase, GREATEST_AMOUNT
from tests.helper import account, ask, cancel, deposit, go, group, hold, last, limit, place, ready, settle, withdraw

THREE = [account(1), account(2), account(3)]
RING = THREE + [group(30, (1, 2, 1, 5)), group(10, (2, 3, 2, 5), (2, 3, 1, 5)), group(20, (3, 1, 1, 5), (3, 2, 2, 5))]


def chain(length, payer_limit):
    """Account n hands to account n + 1; told from the end, so that nobody waits behind what comes in."""
    calls = [account(key) for key in range(1, length + 2)]
    for key in range(length, 0, -1):
        calls.append(group(key, (key, key + 1, 1, 1)))
    return calls + [limit(1, 1, payer_limit)]


class ReadySettleTest(HouseCase):
    def assert_goes(self, calls, keys):
        """ready tells these keys, settle lets as many go, and just these aren't there any more."""
        self.assertEqual(last(calls + [ready()]), [len(keys)] + sorted(keys))
        self.assertEqual(last(calls + [settle()]), [len(keys)])
        there = [call[1] for call in calls if call[0] == 4]
        left = ask(calls + [settle()] + [cancel(key) for key in there])[-len(there):]
        self.assertEqual(left, [[-4] if key in keys else [0] for key in there])
        self.assertEqual(last(calls + [settle(), ready()]), [0])
        self.assertEqual(last(calls + [ready(), ready()]), [len(keys)] + sorted(keys))

    def test_an_empty_house(self):
        self.assert_answers([ready(), settle(), ready(), settle()], [[0], [0], [0], [0]])

    def test_accounts_without_groups(self):
        self.assertEqual(ask(THREE + [deposit(1, 1, 5), ready(), settle(), withdraw(1, 1, 5)])[-3:], [[0], [0], [0]])

    def test_one_that_can_go(self):
        calls = THREE + [deposit(1, 1, 5), group(7, (1, 2, 1, 5))]
        self.assert_goes(calls, [7])
        self.assertEqual(ask(calls + [settle(), withdraw(2, 1, 5), withdraw(1, 1, 1)])[-2:], [[0], [-6]])

    def test_one_that_cannot(self):
        self.assert_goes(THREE + [deposit(1, 1, 4), group(7, (1, 2, 1, 5))], [])
        self.assert_goes(THREE + [deposit(1, 2, 5), group(7, (1, 2, 1, 5))], [])

    def test_keys_rise(self):
        calls = THREE + [deposit(1, 1, 9)] + [group(key, (1, 2, 1, 1)) for key in (50, 7, 1000000000, 1, 300)]
        self.assertEqual(last(calls + [ready()]), [5, 1, 7, 50, 300, 1000000000])

    def test_all_at_once_although_none_can_alone(self):
        self.assert_goes(RING, [10, 20, 30])
        amounts = ask(RING + [settle()] + [deposit(key, good, 1) for key in (1, 2, 3) for good in (1, 2)])[-6:]
        self.assertEqual(amounts, [[1]] * 6)

    def test_a_ring_with_one_held_or_cancelled_stays(self):
        self.assert_goes(RING + [hold(30, 1)], [])
        self.assertEqual(ask(RING + [cancel(20), ready(), settle()])[-2:], [[0], [0]])

    def test_groups_behind_a_held_one(self):
        calls = THREE + [account(4), account(5), deposit(1, 1, 9), deposit(2, 1, 9), deposit(4, 1, 9)]
        calls += [group(1, (1, 2, 1, 1)), group(2, (2, 3, 1, 1)), group(3, (3, 4, 1, 1)), group(4, (4, 5, 1, 1))]
        self.assert_goes(calls, [1, 2, 3, 4])
        # Each of them touches an account of the one before: what is held keeps all behind it.
        self.assert_goes(calls + [hold(1, 1)], [])
        self.assert_goes(calls + [hold(2, 1)], [1])
        self.assert_goes(calls + [hold(3, 1)], [1, 2])
        self.assert_goes(calls + [hold(4, 1)], [1, 2, 3])
        self.assert_goes(calls + [hold(1, 1), hold(3, 1)], [])
        self.assert_goes(calls + [hold(1, 1), place(2, 2, 1)], [2, 3, 4])

    def test_blocked_against_the_order_of_the_accounts(self):
        # The rows must be gone through again until nothing more is behind something taken away.
        calls = [account(key) for key in (5, 4, 3, 2, 1)] + [deposit(key, 1, 9) for key in (1, 2, 3, 4)]
        calls += [group(key, (key, key + 1, 1, 1)) for key in (1, 2, 3, 4)]
        self.assert_goes(calls, [1, 2, 3, 4])
        self.assert_goes(calls + [hold(1, 1)], [])
        calls = [account(key) for key in (1, 2, 3, 4, 5)] + [deposit(key, 1, 9) for key in (1, 2, 3, 4)]
        calls += [group(key, (key, key + 1, 1, 1)) for key in (4, 3, 2, 1)]
        self.assert_goes(calls + [hold(4, 1)], [])

    def test_only_the_last_one_of_a_short_account_is_taken_away(self):
        calls = THREE + [deposit(1, 1, 7)] + [group(key, (1, 2, 1, 3)) for key in (1, 2, 3, 4)]
        self.assert_goes(calls, [1, 2])
        self.assert_goes(calls + [deposit(1, 1, 1)], [1, 2])
        self.assert_goes(calls + [deposit(1, 1, 2)], [1, 2, 3])
        self.assert_goes(calls + [limit(1, 1, 5)], [1, 2, 3, 4])
        self.assert_goes(calls + [withdraw(1, 1, 2)], [1])

    def test_the_last_one_goes_though_it_brings_something(self):
        # The last one of account 1's row brings, but the whole row would still leave it short.
        calls = THREE + [deposit(1, 1, 5), group(1, (1, 2, 1, 5)), group(2, (1, 2, 1, 5)), group(3, (3, 1, 1, 1))]
        calls += [deposit(3, 1, 1)]
        self.assert_goes(calls, [1])
        self.assert_goes(calls + [place(1, 3, 1)], [1, 3])
        self.assert_goes(calls + [limit(1, 1, 4)], [1, 2, 3])

    def test_several_rounds_of_taking_away(self):
        for length in (2, 5, 7):
            self.assert_goes(chain(length, 0), [])
            self.assert_goes(chain(length, 1), list(range(1, length + 1)))
            for rich in range(2, length + 1):
                self.assert_goes(chain(length, 0) + [deposit(rich, 1, 1)], list(range(rich, length + 1)))

    def test_several_goods_short_in_several_accounts(self):
        calls = THREE + [deposit(1, 1, 5), deposit(2, 2, 4), deposit(3, 3, 5)]
        calls += [group(1, (1, 2, 1, 5), (2, 1, 2, 5)), group(2, (3, 1, 3, 5), (3, 2, 4, 1)), group(3, (3, 2, 3, 1))]
        self.assert_goes(calls, [])
        self.assert_goes(calls + [deposit(2, 2, 1)], [1])
        self.assert_goes(calls + [deposit(2, 2, 1), limit(3, 4, 1)], [1, 2])
        self.assert_goes(calls + [deposit(2, 2, 1), limit(3, 4, 1), limit(3, 3, 1)], [1, 2, 3])

    def test_just_at_the_limit_and_one_beyond(self):
        calls = THREE + [limit(1, 1, 10), deposit(1, 1, 5)]
        self.assert_goes(calls + [group(1, (1, 2, 1, 15))], [1])
        self.assert_goes(calls + [group(1, (1, 2, 1, 16))], [])

    def test_great_amounts(self):
        most = (1, 2, 1, GREATEST_AMOUNT)
        calls = THREE + [deposit(1, 1, GREATEST_AMOUNT)] * 10
        calls = calls + [group(key, *[most] * 8) for key in (1, 2)]
        self.assert_goes(calls, [1])
        self.assert_goes(calls + [group(3, (2, 1, 1, GREATEST_AMOUNT * 5 // 10))], [1])
        self.assert_goes(calls + [group(3, *[(2, 1, 1, GREATEST_AMOUNT)] * 6)], [1, 2, 3])

    def test_a_full_house(self):
        calls = [account(key) for key in range(1, 9)]
        calls += [group(key, (key % 8 + 1, (key + 1) % 8 + 1, 1, 1)) for key in range(1, 25)]
        self.assert_goes(calls, list(range(1, 25)))
        self.assert_goes(calls + [hold(24, 1)], list(range(1, 17)))

    def test_ready_changes_nothing(self):
        with_ready = RING + [ready(), go(10, 20, 30), ready()]
        self.assertEqual(ask(with_ready)[-3:], [[3, 10, 20, 30], [3], [0]])

    def test_what_settles_is_not_there_for_the_next_ones(self):
        calls = RING + [settle(), group(30, (1, 2, 1, 1)), place(1, 30, 24), ready(), deposit(1, 1, 1), ready()]
        self.assertEqual(ask(calls)[-6:], [[3], [0], [1], [0], [1], [1, 30]])
