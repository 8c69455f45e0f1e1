"""The promises 1 to 3, and all calls against a plain model, over many lines of calls."""

from itertools import combinations
from random import Random
import unittest

from tests.helper import FAR, GREATEST_AFTER_DEPOSIT, GREATEST_AMOUNT, GREATEST_KEY
from tests.helper import account, ask, cancel, deposit, go, group, hold, last, limit, place, raw_group, ready, settle
from tests.helper import withdraw

GOODS = (1, 2, 3, 4)


def subsets(keys):
    keys = list(keys)
    return [chosen for size in range(len(keys) + 1) for chosen in combinations(keys, size)]


class Model:
    """The document's words one by one: the greatest set is put together from all the sets that can go."""

    def __init__(self):
        self.amounts = {}
        self.limits = {}
        self.rows = {}
        self.legs = {}
        self.held = {}

    def answer(self, call):
        names = ("account", "deposit", "withdraw", "limit", "group", "cancel", "hold", "place", "settle", "go", "ready")
        name = names[call[0]]
        if name == "group":
            return self.group(call[1], call[3:])
        if name == "go":
            return self.go(call[2:])
        return getattr(self, name)(*call[1:])

    def account(self, key):
        if not 1 <= key <= GREATEST_KEY:
            return [-1]
        if key in self.rows:
            return [-2]
        if len(self.rows) >= 8:
            return [-9]
        self.rows[key] = []
        for good in GOODS:
            self.amounts[key, good] = 0
            self.limits[key, good] = 0
        return [0]

    def refused_amount(self, key, good, amount, least):
        if not 1 <= key <= GREATEST_KEY or not 1 <= good <= 4 or not least <= amount <= GREATEST_AMOUNT:
            return -1
        return 0 if key in self.rows else -4

    def deposit(self, key, good, amount):
        refusal = self.refused_amount(key, good, amount, 1)
        if not refusal and self.amounts[key, good] + amount > GREATEST_AFTER_DEPOSIT:
            refusal = -5
        if refusal:
            return [refusal]
        self.amounts[key, good] += amount
        return [self.amounts[key, good]]

    def withdraw(self, key, good, amount):
        refusal = self.refused_amount(key, good, amount, 1)
        if not refusal and self.amounts[key, good] - amount + self.limits[key, good] < 0:
            refusal = -6
        if refusal:
            return [refusal]
        self.amounts[key, good] -= amount
        return [self.amounts[key, good]]

    def limit(self, key, good, amount):
        refusal = self.refused_amount(key, good, amount, 0)
        if not refusal and self.amounts[key, good] + amount < 0:
            refusal = -6
        if refusal:
            return [refusal]
        before = self.limits[key, good]
        self.limits[key, good] = amount
        return [before]

    def group(self, key, numbers):
        if not 1 <= key <= GREATEST_KEY or len(numbers) not in range(4, 33, 4):
            return [-1]
        legs = [tuple(numbers[at:at + 4]) for at in range(0, len(numbers), 4)]
        for leg in legs:
            for number, most in zip(leg, (GREATEST_KEY, GREATEST_KEY, 4, GREATEST_AMOUNT)):
                if not 1 <= number <= most:
                    return [-1]
        if [leg for leg in legs if leg[0] == leg[1]]:
            return [-3]
        if key in self.legs:
            return [-2]
        touched = {leg[0] for leg in legs} | {leg[1] for leg in legs}
        if touched - set(self.rows):
            return [-4]
        if len(self.legs) >= 24:
            return [-9]
        self.legs[key] = legs
        self.held[key] = 0
        for account_key in touched:
            self.rows[account_key].append(key)
        return [0]

    def refused_group(self, key):
        if not 1 <= key <= GREATEST_KEY:
            return -1
        return 0 if key in self.legs else -4

    def drop(self, key):
        self.legs.pop(key)
        self.held.pop(key)
        for row in self.rows.values():
            if key in row:
                row.remove(key)

    def cancel(self, key):
        refusal = self.refused_group(key)
        if not refusal:
            self.drop(key)
        return [refusal]

    def hold(self, key, held):
        refusal = self.refused_group(key) if held in (0, 1) else -1
        if refusal:
            return [refusal]
        before = self.held[key]
        self.held[key] = held
        return [before]

    def place(self, account_key, key, n):
        if not 1 <= n <= 24 or not 1 <= account_key <= GREATEST_KEY or self.refused_group(key) == -1:
            return [-1]
        if account_key not in self.rows or self.refused_group(key) == -4:
            return [-4]
        row = self.rows[account_key]
        if key not in row:
            return [-7]
        before = row.index(key)
        row.remove(key)
        row.insert(n - 1, key)
        return [before + 1]

    def can_go(self, keys):
        if [key for key in keys if self.held[key]]:
            return False
        for row in self.rows.values():
            inside = [key for key in row if key in keys]
            if row[:len(inside)] != inside:
                return False
        after = self.after(keys)
        return all(after[what] >= -self.limits[what] for what in after)

    def after(self, keys):
        after = dict(self.amounts)
        for key in keys:
            for giver, taker, good, amount in self.legs[key]:
                after[giver, good] -= amount
                after[taker, good] += amount
        return after

    def sets_that_can_go(self):
        return [set(keys) for keys in subsets(self.legs) if self.can_go(keys)]

    def greatest(self):
        return set().union(*self.sets_that_can_go())

    def let_go(self, keys):
        self.amounts = self.after(keys)
        for key in list(keys):
            self.drop(key)
        return [len(keys)]

    def settle(self):
        return self.let_go(self.greatest())

    def go(self, keys):
        if len(keys) > 24 or [key for key in keys if not 1 <= key <= GREATEST_KEY]:
            return [-1]
        if [key for key in keys if keys.count(key) > 1]:
            return [-3]
        if [key for key in keys if key not in self.legs]:
            return [-4]
        if not self.can_go(keys):
            return [-8]
        return self.let_go(keys)

    def ready(self):
        greatest = self.greatest()
        return [len(greatest)] + sorted(greatest)


ACCOUNT_KEYS = (1, 2, 3, 4, GREATEST_KEY)
GROUP_KEYS = (1, 2, 3, 4, 5, GREATEST_KEY)


def now_and_then_wild(random, number):
    if random.random() < 0.03:
        return random.choice((0, -1, 5, 25, GREATEST_KEY + 1, GREATEST_AMOUNT, GREATEST_AMOUNT + 1, FAR, -FAR))
    return number


def random_legs(random, account_keys):
    legs = []
    for leg in range(random.choice((1, 1, 1, 1, 1, 2, 2, 3))):
        giver, taker = random.sample(account_keys, 2)
        legs += [giver, taker, random.choice((1, 1, 1, 1, 2, 4)), random.randint(1, 4)]
    return legs


def random_group(random, account_keys=ACCOUNT_KEYS):
    numbers = [now_and_then_wild(random, number) for number in random_legs(random, account_keys)]
    if random.random() < 0.03:
        numbers[0] = numbers[1]
    if random.random() < 0.05:
        numbers = (numbers * 10)[:random.choice((0, 3, 5, 32, 33, 36, 40))]
    return raw_group(random.choice(GROUP_KEYS), numbers)


def random_go(random):
    count = random.randint(0, 3)
    if random.random() < 0.1:
        return go(*[random.choice(GROUP_KEYS) for key in range(count)])
    return go(*random.sample(GROUP_KEYS, count))


def random_call(random):
    kind = random.choice("dddwlgggggghpposoor")
    some_account = now_and_then_wild(random, random.choice(ACCOUNT_KEYS))
    some_group = now_and_then_wild(random, random.choice(GROUP_KEYS))
    good = now_and_then_wild(random, random.choice((1, 1, 1, 2, 3, 4)))
    if kind == "d":
        return deposit(some_account, good, now_and_then_wild(random, random.randint(1, 6)))
    if kind == "w":
        return withdraw(some_account, good, now_and_then_wild(random, random.randint(1, 3)))
    if kind == "l":
        return limit(some_account, good, now_and_then_wild(random, random.randint(0, 5)))
    if kind == "g":
        return random_group(random)
    if kind == "h":
        return hold(some_group, now_and_then_wild(random, random.choice((0, 0, 0, 1))))
    if kind == "p":
        return place(some_account, some_group, now_and_then_wild(random, random.randint(1, 6)))
    if kind == "s":
        return random.choice((settle(), cancel(some_group), account(some_account)))
    if kind == "o":
        return random_go(random)
    return ready()


def random_house(random):
    """Calls that fill a house with a few accounts and groups, in no order to be foreseen."""
    account_keys = random.sample(ACCOUNT_KEYS, random.randint(2, 4))
    calls = [account(key) for key in account_keys]
    for key in account_keys:
        for good in GOODS:
            calls += random.choice(([], [deposit(key, good, random.randint(1, 5))], [limit(key, good, 4)]))
    group_keys = random.sample(GROUP_KEYS, random.randint(2, 5))
    calls += [raw_group(key, random_legs(random, account_keys)) for key in group_keys]
    for move in range(random.randint(0, 2)):
        calls += [place(random.choice(account_keys), random.choice(group_keys), random.randint(1, 6))]
    if random.random() < 0.2:
        calls += [hold(random.choice(group_keys), 1)]
    return account_keys, group_keys, calls


def random_line(random, length):
    account_keys, group_keys, calls = random_house(random)
    return calls + [random_call(random) for call in range(length)]


class ModelTest(unittest.TestCase):
    def test_lines_of_calls_are_answered_as_the_model_does(self):
        random = Random(20261116)
        met = {}
        for line in range(3000):
            calls = random_line(random, 30)
            model = Model()
            for call, given in zip(calls, ask(calls)):
                expected = model.answer(call)
                self.assertEqual(given, expected, (calls, call))
                what = (call[0], expected[0] if expected[0] < 0 else min(expected[0], 3))
                met[what] = met.get(what, 0) + 1
        # The lines are worth something only if much can go in them, and much is refused.
        for what in ((8, 0), (8, 1), (8, 2), (8, 3), (9, 1), (9, 2), (9, -8), (9, -4), (9, -3), (10, 2), (10, 3)):
            self.assertGreater(met.get(what, 0), 20, what)


def what_is_left(calls, account_keys, group_keys):
    """Everybody's amounts, then which groups are still there."""
    looks = [deposit(key, good, 1) for key in account_keys for good in GOODS]
    looks += [cancel(key) for key in group_keys]
    return ask(calls + looks)[len(calls):]


def houses(count):
    random = Random(count)
    return [random_house(random) for house in range(count)]


class FirstPromiseTest(unittest.TestCase):
    def test_whatever_goes_first_the_same_have_gone_in_the_end(self):
        tried = 0
        for account_keys, group_keys, calls in houses(300):
            settled = what_is_left(calls + [settle()], account_keys, group_keys)
            for keys in subsets(group_keys):
                if last(calls + [go(*keys)]) == [len(keys)]:
                    first = calls + [go(*keys)]
                    tried += len(keys) > 0
                    self.assertEqual(what_is_left(first + [settle()], account_keys, group_keys), settled, first)
        self.assertGreater(tried, 100)

    def test_one_set_after_another_comes_to_the_same(self):
        random = Random(3)
        for account_keys, group_keys, calls in houses(200):
            settled = what_is_left(calls + [settle()], account_keys, group_keys)
            gone = list(calls)
            tries = subsets(group_keys)
            random.shuffle(tries)
            # A set that can't go now may go once another went, so all are tried again and again.
            for keys in tries * len(group_keys):
                if len(keys) > 0 and last(gone + [go(*keys)]) == [len(keys)]:
                    gone.append(go(*keys))
            self.assertEqual(what_is_left(gone, account_keys, group_keys), settled, calls)
            self.assertEqual(last(gone + [settle()]), [0])

    def test_the_greatest_set_has_all_that_are_in_any_set_that_can_go(self):
        for account_keys, group_keys, calls in houses(300):
            every = set()
            for keys in subsets(group_keys):
                if last(calls + [go(*keys)]) == [len(keys)]:
                    every |= set(keys)
            self.assertEqual(last(calls + [ready()]), [len(every)] + sorted(every))
            self.assertEqual(last(calls + [go(*sorted(every))]), [len(every)])
            self.assertEqual(last(calls + [settle()]), [len(every)])


class SecondPromiseTest(unittest.TestCase):
    def amounts_and_limits(self, calls):
        """What everybody has and may owe, read by calls that are put behind."""
        looks = []
        for key in ACCOUNT_KEYS:
            for good in GOODS:
                looks += [limit(key, good, GREATEST_AMOUNT), withdraw(key, good, 1)]
        given = [answer[0] for answer in ask(calls + looks)[len(calls):]]
        shown = {}
        for at in range(0, len(given), 2):
            key, good = looks[at][1], looks[at][2]
            if [given[at], given[at + 1]] != [-4, -4]:
                shown[key, good] = (given[at + 1] + 1, given[at])
        return shown

    def test_nobody_is_below_a_limit_and_goods_stay(self):
        random = Random(2)
        for line in range(60):
            calls = [account(key) for key in ACCOUNT_KEYS]
            put_in = {good: 0 for good in GOODS}
            shown = self.amounts_and_limits(calls)
            for call in [random_call(random) for step in range(40)]:
                before = shown
                calls.append(call)
                shown = self.amounts_and_limits(calls)
                if call[0] in (1, 2) and shown != before:
                    put_in[call[2]] += call[3] if call[0] == 1 else -call[3]
                for amount, may_owe in shown.values():
                    self.assertGreaterEqual(amount, -may_owe, calls)
                for good in GOODS:
                    together = sum(shown[what][0] for what in shown if what[1] == good)
                    self.assertEqual(together, put_in[good], calls)


class ThirdPromiseTest(unittest.TestCase):
    def test_more_of_a_good_or_a_higher_limit_keeps_nothing_from_going(self):
        let_in = 0
        for account_keys, group_keys, calls in houses(200):
            before = last(calls + [ready()])[1:]
            for key in account_keys:
                for good in GOODS:
                    for more in (1, 3, 20):
                        given = ask(calls + [deposit(key, good, more), ready()])
                        self.assertLessEqual(set(before), set(given[-1][1:]), calls)
                        let_in += len(given[-1]) - 1 > len(before)
                        # The limits of these houses are 0 or 4.
                        given = ask(calls + [limit(key, good, 4 + more), ready()])
                        self.assertLessEqual(set(before), set(given[-1][1:]), calls)
        self.assertGreater(let_in, 20)

    def test_more_for_everybody_lets_all_go_that_wait_behind_no_held_one(self):
        for account_keys, group_keys, calls in houses(60):
            more = [deposit(key, good, GREATEST_AMOUNT) for key in account_keys for good in GOODS]
            free = [hold(key, 0) for key in group_keys]
            self.assertEqual(last(calls + more + free + [ready()]), [len(group_keys)] + sorted(group_keys))


if __name__ == "__main__":
    unittest.main()
