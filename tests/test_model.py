"""All calls against a plain model, over many lines of calls."""

from itertools import combinations
from random import Random
import unittest

from tests.helper import FAR, GOODS, GREATEST_AFTER_DEPOSIT, GREATEST_AMOUNT, GREATEST_KEY
from tests.helper import account, ask, deposit, hold, limit, place, random_call, random_house, random_legs
from tests.helper import raw_group, subsets, why

NAMES = (
    "account deposit withdraw limit group cancel hold place settle go ready can why has then all need more row legs "
    "waiting moved"
).split()


class Model:
    """The document's words one by one: the greatest set is put together from all the sets that can go."""

    def __init__(self):
        self.amounts = {}
        self.limits = {}
        self.rows = {}
        self.legs_of = {}
        self.held = {}

    def answer(self, call):
        name = NAMES[call[0]]
        if name == "group":
            return self.group(call[1], call[3:])
        if name in ("go", "can"):
            return getattr(self, name)(call[2:])
        return getattr(self, name)(*call[1:])

    def account(self, key):
        if not 1 <= key <= GREATEST_KEY:
            return [-1]
        if key in self.rows:
            return [-2]
        if len(self.rows) >= 8:
            return [-9]
        self.rows[key] = []
        for good in GOODS:
            self.amounts[key, good] = 0
            self.limits[key, good] = 0
        return [0]

    def refused_amount(self, key, good, amount, least):
        if not 1 <= key <= GREATEST_KEY or not 1 <= good <= 4 or not least <= amount <= GREATEST_AMOUNT:
            return -1
        return 0 if key in self.rows else -4

    def deposit(self, key, good, amount):
        refusal = self.refused_amount(key, good, amount, 1)
        if not refusal and self.amounts[key, good] + amount > GREATEST_AFTER_DEPOSIT:
            refusal = -5
        if refusal:
            return [refusal]
        self.amounts[key, good] += amount
        return [self.amounts[key, good]]

    def withdraw(self, key, good, amount):
        refusal = self.refused_amount(key, good, amount, 1)
        if not refusal and self.amounts[key, good] - amount + self.limits[key, good] < 0:
            refusal = -6
        if refusal:
            return [refusal]
        self.amounts[key, good] -= amount
        return [self.amounts[key, good]]

    def limit(self, key, good, amount):
        refusal = self.refused_amount(key, good, amount, 0)
        if not refusal and self.amounts[key, good] + amount < 0:
            refusal = -6
        if refusal:
            return [refusal]
        before = self.limits[key, good]
        self.limits[key, good] = amount
        return [before]

    def group(self, key, numbers):
        if not 1 <= key <= GREATEST_KEY or len(numbers) not in range(4, 33, 4):
            return [-1]
        legs = [tuple(numbers[at:at + 4]) for at in range(0, len(numbers), 4)]
        for leg in legs:
            for number, most in zip(leg, (GREATEST_KEY, GREATEST_KEY, 4, GREATEST_AMOUNT)):
                if not 1 <= number <= most:
                    return [-1]
        if [leg for leg in legs if leg[0] == leg[1]]:
            return [-3]
        if key in self.legs_of:
            return [-2]
        touched = {leg[0] for leg in legs} | {leg[1] for leg in legs}
        if touched - set(self.rows):
            return [-4]
        if len(self.legs_of) >= 24:
            return [-9]
        self.legs_of[key] = legs
        self.held[key] = 0
        for account_key in touched:
            self.rows[account_key].append(key)
        return [0]

    def refused_group(self, key):
        if not 1 <= key <= GREATEST_KEY:
            return -1
        return 0 if key in self.legs_of else -4

    def drop(self, key):
        self.legs_of.pop(key)
        self.held.pop(key)
        for row in self.rows.values():
            if key in row:
                row.remove(key)

    def cancel(self, key):
        refusal = self.refused_group(key)
        if not refusal:
            self.drop(key)
        return [refusal]

    def hold(self, key, held):
        refusal = self.refused_group(key) if held in (0, 1) else -1
        if refusal:
            return [refusal]
        before = self.held[key]
        self.held[key] = held
        return [before]

    def place(self, account_key, key, n):
        if not 1 <= n <= 24 or not 1 <= account_key <= GREATEST_KEY or self.refused_group(key) == -1:
            return [-1]
        if account_key not in self.rows or self.refused_group(key) == -4:
            return [-4]
        row = self.rows[account_key]
        if key not in row:
            return [-7]
        before = row.index(key)
        row.remove(key)
        row.insert(n - 1, key)
        return [before + 1]

    def can_go(self, keys):
        if [key for key in keys if self.held[key]]:
            return False
        for row in self.rows.values():
            inside = [key for key in row if key in keys]
            if row[:len(inside)] != inside:
                return False
        after = self.after(keys)
        return all(after[what] >= -self.limits[what] for what in after)

    def after(self, keys):
        after = dict(self.amounts)
        for key in keys:
            for giver, taker, good, amount in self.legs_of[key]:
                after[giver, good] -= amount
                after[taker, good] += amount
        return after

    def sets_that_can_go(self):
        return [set(keys) for keys in subsets(self.legs_of) if self.can_go(keys)]

    def greatest(self):
        return set().union(*self.sets_that_can_go())

    def let_go(self, keys):
        self.amounts = self.after(keys)
        for key in list(keys):
            self.drop(key)
        return [len(keys)]

    def settle(self):
        return self.let_go(self.greatest())

    def refused_list(self, keys):
        if len(keys) > 24 or [key for key in keys if not 1 <= key <= GREATEST_KEY]:
            return -1
        if [key for key in keys if keys.count(key) > 1]:
            return -3
        if [key for key in keys if key not in self.legs_of]:
            return -4
        return 0

    def go(self, keys):
        refusal = self.refused_list(keys)
        if refusal:
            return [refusal]
        if not self.can_go(keys):
            return [-8]
        return self.let_go(keys)

    def can(self, keys):
        refusal = self.refused_list(keys)
        return [refusal or int(self.can_go(keys))]

    def ready(self):
        greatest = self.greatest()
        return [len(greatest)] + sorted(greatest)

    def less_what_is_behind(self, keys):
        keys = set(keys)
        again = True
        while again:
            again = False
            for row in self.rows.values():
                for ahead, behind in combinations(row, 2):
                    if ahead not in keys and behind in keys:
                        keys.remove(behind)
                        again = True
        return keys

    def short_goods(self, account_key, keys):
        after = self.after(keys)
        return [good for good in GOODS if after[account_key, good] + self.limits[account_key, good] < 0]

    def last_one(self, account_key, keys):
        return [key for key in self.rows[account_key] if key in keys][-1]

    def accounts_of_a_culprit(self, key, keys):
        """The short accounts whose last one the group is, rising."""
        short = [account_key for account_key in sorted(self.rows) if self.short_goods(account_key, keys)]
        return [account_key for account_key in short if self.last_one(account_key, keys) == key]

    def round_sets(self):
        sets = [self.less_what_is_behind(key for key in self.legs_of if not self.held[key])]
        while True:
            culprits = {key for key in sets[-1] if self.accounts_of_a_culprit(key, sets[-1])}
            if not culprits:
                return sets
            sets.append(self.less_what_is_behind(sets[-1] - culprits))

    def why(self, key):
        refusal = self.refused_group(key)
        if refusal:
            return [refusal]
        if self.held[key]:
            return [0, 3, 0, 0]
        sets = self.round_sets()
        if key in sets[-1]:
            return [-8]
        at = min(at for at in range(len(sets)) if key not in sets[at])
        if at > 0:
            for account_key in self.accounts_of_a_culprit(key, sets[at - 1]):
                return [at, 1, account_key, min(self.short_goods(account_key, sets[at - 1]))]
        for account_key in sorted(self.rows):
            row = self.rows[account_key]
            out = [other for other in row if other not in sets[at]]
            if key in row and row.index(out[0]) < row.index(key):
                return [at, 2, account_key, out[0]]

    def has(self, account_key, good):
        refusal = self.refused_amount(account_key, good, 1, 1)
        return [refusal] if refusal else [self.amounts[account_key, good], self.limits[account_key, good]]

    def then(self, account_key, good):
        refusal = self.refused_amount(account_key, good, 1, 1)
        return [refusal or self.after(self.greatest())[account_key, good]]

    def all(self, account_key, good):
        refusal = self.refused_amount(account_key, good, 1, 1)
        return [refusal or self.after(self.legs_of)[account_key, good]]

    def need(self, account_key, good, key):
        refusal = self.refused_amount(account_key, good, 1, 1)
        if refusal == -1 or self.refused_group(key) == -1:
            return [-1]
        if refusal or self.refused_group(key):
            return [-4]
        kept = self.amounts[account_key, good]
        # With that much more the account keeps back nothing, and each set that can go tells what it needs of it.
        self.amounts[account_key, good] += FAR
        needed = []
        for keys in self.sets_that_can_go():
            if key in keys:
                after = self.after(keys)[account_key, good] - FAR
                needed.append(max(0, -self.limits[account_key, good] - after))
        self.amounts[account_key, good] = kept
        return [min(needed) if needed else -8]

    def more(self, account_key, good, amount):
        refusal = self.refused_amount(account_key, good, amount, 1)
        if refusal:
            return [refusal]
        before = self.greatest()
        self.amounts[account_key, good] += amount
        came_in = self.greatest() - before
        self.amounts[account_key, good] -= amount
        return [len(came_in)] + sorted(came_in)

    def row(self, account_key):
        refusal = self.refused_amount(account_key, 1, 1, 1)
        return [refusal] if refusal else [len(self.rows[account_key])] + self.rows[account_key]

    def legs(self, key):
        refusal = self.refused_group(key)
        if refusal:
            return [refusal]
        told = [number for leg in self.legs_of[key] for number in leg]
        return [self.held[key], len(self.legs_of[key])] + told

    def waiting(self):
        return [len(self.legs_of)] + sorted(self.legs_of)

    def moved(self, good):
        if not 1 <= good <= 4:
            return [-1]
        greatest = self.greatest()
        done = [leg for key in greatest for leg in self.legs_of[key] if leg[2] == good]
        after = self.after(greatest)
        less = [self.amounts[key, good] - after[key, good] for key in self.rows]
        return [sum(leg[3] for leg in done), sum(number for number in less if number > 0)]


# What a call answers first, or of why the round and the sort of reason: the lines are worth something only
# if each of these comes up again and again.
TO_BE_MET = (
    (8, 0), (8, 1), (8, 2), (8, 3), (9, 1), (9, 2), (9, -8), (9, -4), (9, -3), (10, 2), (10, 3), (11, 0), (11, 1),
    (11, -4), (12, -8), (12, -4), (12, -1), (12, 0, 2), (12, 0, 3), (12, 1, 1), (12, 1, 2), (12, 2, 1), (12, 2, 2),
    (12, 3, 1), (13, -4), (14, 3), (15, 3), (16, 0), (16, 1), (16, 2), (16, 3), (16, -8), (16, -4), (17, 0), (17, 1),
    (17, 2), (18, 0), (18, 3), (19, 0), (19, 1), (20, 3), (21, 0), (21, 3), (21, -1),
)


def what_is_met(call, expected):
    first = expected[0] if expected[0] < 0 else min(expected[0], 3)
    if call[0] == 12 and first >= 0:
        return 12, first, expected[1]
    return call[0], first


class ModelTest(unittest.TestCase):
    def test_lines_of_calls_are_answered_as_the_model_does(self):
        random = Random(20261116)
        met = {}
        for line in range(3000):
            account_keys, group_keys, calls = random_house(random)
            calls = calls + [random_call(random) for step in range(40)]
            model = Model()
            for call, given in zip(calls, ask(calls)):
                expected = model.answer(call)
                self.assertEqual(given, expected, (calls, call))
                what = what_is_met(call, expected)
                met[what] = met.get(what, 0) + 1
        for what in TO_BE_MET:
            self.assertGreater(met.get(what, 0), 20, what)


def great_house(random):
    """Eight accounts in no order, and 24 groups in rows that are mixed."""
    account_keys = random.sample(range(1, 100), 8)
    calls = [account(key) for key in account_keys]
    for key in account_keys:
        for good in GOODS:
            calls += random.choice(([deposit(key, good, random.randint(1, 30))], [limit(key, good, 5)], []))
    group_keys = random.sample(range(1, 100), 24)
    calls += [raw_group(key, random_legs(random, account_keys)) for key in group_keys]
    calls += [place(random.choice(account_keys), random.choice(group_keys), random.randint(1, 24)) for move in range(9)]
    calls += random.choice(([hold(group_keys[12], 1)], [hold(group_keys[-1], 1)], []))
    return account_keys, group_keys, calls


class GreatHouseTest(unittest.TestCase):
    def test_the_reasons_of_all_groups(self):
        random = Random(24)
        rounds = {}
        for line in range(60):
            account_keys, group_keys, calls = great_house(random)
            model = Model()
            for call in calls:
                model.answer(call)
            asked = [why(key) for key in group_keys]
            for call, given in zip(asked, ask(calls + asked)[len(calls):]):
                self.assertEqual(given, model.answer(call), (calls, call))
                rounds[given[0]] = rounds.get(given[0], 0) + 1
        for at in (-8, 0, 1, 2, 3, 4, 5):
            self.assertGreater(rounds.get(at, 0), 5, at)


if __name__ == "__main__":
    unittest.main()
