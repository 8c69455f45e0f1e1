"""The promises 1 to 3, over many lines of calls."""

from random import Random
import unittest

from tests.helper import ACCOUNT_KEYS, GOODS, GREATEST_AMOUNT
from tests.helper import account, ask, can, deposit, go, has, hold, last, limit, more, need
from tests.helper import random_call, random_houses, ready, settle, subsets, then, waiting, with_all


def what_is_left(calls, account_keys):
    """Everybody's amounts and limits, then which groups are still there."""
    looks = [has(key, good) for key in account_keys for good in GOODS]
    return ask(calls + looks + [waiting()])[len(calls):]


def houses(count):
    return random_houses(Random(count), count)


def sets_that_can_go(calls, group_keys):
    """Each set of groups of which can answers 1."""
    return [keys for keys in subsets(group_keys) if last(calls + [can(*keys)]) == [1]]


class FirstPromiseTest(unittest.TestCase):
    def test_whatever_goes_first_the_same_have_gone_in_the_end(self):
        tried = 0
        for account_keys, group_keys, calls in houses(300):
            settled = what_is_left(calls + [settle()], account_keys)
            for keys in sets_that_can_go(calls, group_keys):
                first = calls + [go(*keys)]
                tried += len(keys) > 0
                self.assertEqual(last(first), [len(keys)])
                self.assertEqual(what_is_left(first + [settle()], account_keys), settled, first)
        self.assertGreater(tried, 100)

    def test_one_set_after_another_comes_to_the_same(self):
        random = Random(3)
        for account_keys, group_keys, calls in houses(200):
            settled = what_is_left(calls + [settle()], account_keys)
            gone = list(calls)
            tries = subsets(group_keys)
            random.shuffle(tries)
            # A set that can't go now may go once another went, so all are tried again and again.
            for keys in tries * len(group_keys):
                if len(keys) > 0 and last(gone + [go(*keys)]) == [len(keys)]:
                    gone.append(go(*keys))
            self.assertEqual(what_is_left(gone, account_keys), settled, calls)
            self.assertEqual(last(gone + [settle()]), [0])

    def test_the_greatest_set_has_all_that_are_in_any_set_that_can_go(self):
        for account_keys, group_keys, calls in houses(300):
            every = set().union(*sets_that_can_go(calls, group_keys))
            self.assertEqual(last(calls + [ready()]), [len(every)] + sorted(every))
            self.assertEqual(last(calls + [can(*sorted(every))]), [1])
            self.assertEqual(last(calls + [go(*sorted(every))]), [len(every)])
            self.assertEqual(last(calls + [settle()]), [len(every)])

    def test_can_answers_1_just_where_go_is_not_refused(self):
        met = {0: 0, 1: 0}
        for account_keys, group_keys, calls in houses(200):
            for keys in subsets(group_keys):
                asked, went = [last(calls + [call]) for call in (can(*keys), go(*keys))]
                self.assertEqual(went, [len(keys)] if asked == [1] else [-8], calls)
                met[asked[0]] += 1
        self.assertGreater(min(met.values()), 200)

    def test_then_is_what_everybody_has_behind_settle(self):
        for account_keys, group_keys, calls in houses(200):
            for key in account_keys:
                for good in GOODS:
                    behind = last(calls + [settle(), has(key, good)])
                    self.assertEqual(last(calls + [then(key, good)]), behind[:1], calls)


class SecondPromiseTest(unittest.TestCase):
    def amounts_and_limits(self, calls):
        looks = [has(key, good) for key in ACCOUNT_KEYS for good in GOODS]
        return {tuple(look[1:]): given for look, given in zip(looks, ask(calls + looks)[len(calls):])}

    def test_nobody_is_below_a_limit_and_goods_stay(self):
        random = Random(2)
        for line in range(80):
            calls = [account(key) for key in ACCOUNT_KEYS]
            put_in = {good: 0 for good in GOODS}
            shown = self.amounts_and_limits(calls)
            for call in [random_call(random) for step in range(60)]:
                before = shown
                calls.append(call)
                shown = self.amounts_and_limits(calls)
                if call[0] in (1, 2) and shown != before:
                    put_in[call[2]] += call[3] if call[0] == 1 else -call[3]
                if call[0] >= 10:
                    self.assertEqual(shown, before, calls)
                for amount, may_owe in shown.values():
                    self.assertGreaterEqual(amount, -may_owe, calls)
                for good in GOODS:
                    together = sum(shown[what][0] for what in shown if what[1] == good)
                    self.assertEqual(together, put_in[good], calls)

    def test_goods_stay_if_the_greatest_set_went_and_if_all_went(self):
        for account_keys, group_keys, calls in houses(200):
            for good in GOODS:
                together = [
                    sum(last(calls + [look(key, good)])[0] for key in account_keys) for look in (has, then, with_all)
                ]
                self.assertEqual(len(set(together)), 1, calls)
                for key in account_keys:
                    may_owe = last(calls + [has(key, good)])[1]
                    self.assertGreaterEqual(last(calls + [then(key, good)])[0], -may_owe, calls)


class ThirdPromiseTest(unittest.TestCase):
    def test_more_of_a_good_or_a_higher_limit_keeps_nothing_from_going(self):
        let_in = 0
        for account_keys, group_keys, calls in houses(200):
            before = last(calls + [ready()])[1:]
            for key in account_keys:
                for good in GOODS:
                    for amount in (1, 3, 20):
                        given = ask(calls + [deposit(key, good, amount), ready()])
                        self.assertLessEqual(set(before), set(given[-1][1:]), calls)
                        let_in += len(given[-1]) - 1 > len(before)
                        # The limits of these houses are 0 or 4.
                        given = ask(calls + [limit(key, good, 4 + amount), ready()])
                        self.assertLessEqual(set(before), set(given[-1][1:]), calls)
        self.assertGreater(let_in, 20)

    def test_more_for_everybody_lets_all_go_that_wait_behind_no_held_one(self):
        for account_keys, group_keys, calls in houses(60):
            richer = [deposit(key, good, GREATEST_AMOUNT) for key in account_keys for good in GOODS]
            free = [hold(key, 0) for key in group_keys]
            self.assertEqual(last(calls + richer + free + [ready()]), [len(group_keys)] + sorted(group_keys))

    def test_more_answers_what_a_deposit_brings_in(self):
        counts = {}
        for account_keys, group_keys, calls in houses(150):
            before = set(last(calls + [ready()])[1:])
            for key in account_keys:
                for good in GOODS:
                    for amount in (1, 2, 3, 5, 8, GREATEST_AMOUNT):
                        came_in = sorted(set(last(calls + [deposit(key, good, amount), ready()])[1:]) - before)
                        self.assertEqual(last(calls + [more(key, good, amount)]), [len(came_in)] + came_in, calls)
                        counts[len(came_in)] = counts.get(len(came_in), 0) + 1
        for count in (0, 1, 2, 3):
            self.assertGreater(counts.get(count, 0), 10, count)

    def goes_behind_a_deposit(self, calls, account_key, good, amount, key):
        richer = [deposit(account_key, good, amount)] if amount > 0 else []
        return key in last(calls + richer + [ready()])[1:]

    def test_need_is_the_least_deposit_that_brings_a_group_in(self):
        met = {}
        for account_keys, group_keys, calls in houses(150):
            for account_key in account_keys:
                for good in GOODS:
                    for key in group_keys:
                        told = (calls, account_key, good)
                        needed = last(calls + [need(account_key, good, key)])[0]
                        met[min(needed, 3)] = met.get(min(needed, 3), 0) + 1
                        if needed == -8:
                            self.assertFalse(self.goes_behind_a_deposit(*told, GREATEST_AMOUNT, key), told)
                        else:
                            self.assertTrue(self.goes_behind_a_deposit(*told, needed, key), told)
                        if needed > 0:
                            self.assertFalse(self.goes_behind_a_deposit(*told, needed - 1, key), told)
        for needed in (-8, 0, 1, 2, 3):
            self.assertGreater(met.get(needed, 0), 10, needed)


if __name__ == "__main__":
    unittest.main()
