"""How the tests tell calls, take the answers apart, and see what a house holds."""

from itertools import combinations
import unittest

from settledatonce.house import answers

FAR = 10 ** 18
GREATEST_KEY = 1000000000
GREATEST_AMOUNT = 1000000000000
GREATEST_AFTER_DEPOSIT = 10000000000000
GOODS = (1, 2, 3, 4)


def account(key):
    return [0, key]


def deposit(account_key, good, amount):
    return [1, account_key, good, amount]


def withdraw(account_key, good, amount):
    return [2, account_key, good, amount]


def limit(account_key, good, amount):
    return [3, account_key, good, amount]


def raw_group(key, numbers):
    return [4, key, len(numbers)] + list(numbers)


def group(key, *legs):
    return raw_group(key, [number for leg in legs for number in leg])


def cancel(key):
    return [5, key]


def hold(key, held):
    return [6, key, held]


def place(account_key, key, n):
    return [7, account_key, key, n]


def settle():
    return [8]


def go(*keys):
    return [9, len(keys)] + list(keys)


def ready():
    return [10]


def can(*keys):
    return [11, len(keys)] + list(keys)


def why(key):
    return [12, key]


def has(account_key, good):
    return [13, account_key, good]


def then(account_key, good):
    return [14, account_key, good]


def with_all(account_key, good):
    return [15, account_key, good]


def need(account_key, good, key):
    return [16, account_key, good, key]


def more(account_key, good, amount):
    return [17, account_key, good, amount]


def row(account_key):
    return [18, account_key]


def legs(key):
    return [19, key]


def waiting():
    return [20]


def moved(good):
    return [21, good]


def flat(calls):
    return [number for call in calls for number in call]


def ask(calls):
    """The answer of each call, a list each."""
    if not calls:
        return []
    given = answers(flat(calls))
    taken = []
    at = 0
    while at < len(given):
        taken.append(given[at + 1:at + 1 + given[at]])
        at += 1 + given[at]
    if at != len(given) or len(taken) != len(calls) or [] in taken:
        raise AssertionError(f"not one answer for each call: {given}")
    return taken


def last(calls):
    return ask(calls)[-1]


def questions(account_keys, group_keys):
    """Calls that change nothing and show what there is."""
    calls = [ready(), waiting()] + [moved(good) for good in GOODS]
    for key in account_keys:
        calls.append(row(key))
        for good in GOODS:
            calls += [has(key, good), then(key, good), with_all(key, good)]
    for key in group_keys:
        calls += [legs(key), why(key), can(key)]
    return calls


def probe(account_keys, group_keys):
    """Calls that change something and by that show what there is, and what each group does."""
    calls = [ready()]
    for key in account_keys:
        for good in GOODS:
            calls.append(limit(key, good, GREATEST_AMOUNT))
            calls.append(withdraw(key, good, 1))
    for group_key in group_keys:
        calls.append(hold(group_key, 0))
        for key in account_keys:
            # Each group in turn goes to the end, so the answers tell the whole order.
            calls.append(place(key, group_key, 24))
    for group_key in group_keys:
        calls.append(go(group_key))
    for key in account_keys:
        for good in GOODS:
            calls.append(deposit(key, good, 1))
    return calls


def seen(calls, account_keys, group_keys):
    """What a house shows once these calls are done."""
    shown = ask(list(calls) + questions(account_keys, group_keys))[len(calls):]
    return shown + ask(list(calls) + probe(account_keys, group_keys))[len(calls):]


def subsets(keys):
    keys = list(keys)
    return [chosen for size in range(len(keys) + 1) for chosen in combinations(keys, size)]


ACCOUNT_KEYS = (1, 2, 3, 4, GREATEST_KEY)
GROUP_KEYS = (1, 2, 3, 4, 5, GREATEST_KEY)


def now_and_then_wild(random, number):
    if random.random() < 0.03:
        return random.choice((0, -1, 5, 25, GREATEST_KEY + 1, GREATEST_AMOUNT, GREATEST_AMOUNT + 1, FAR, -FAR))
    return number


def random_legs(random, account_keys):
    legs = []
    for leg in range(random.choice((1, 1, 1, 1, 1, 2, 2, 3))):
        giver, taker = random.sample(account_keys, 2)
        legs += [giver, taker, random.choice((1, 1, 1, 1, 2, 4)), random.randint(1, 4)]
    return legs


def random_group(random, account_keys=ACCOUNT_KEYS):
    numbers = [now_and_then_wild(random, number) for number in random_legs(random, account_keys)]
    if random.random() < 0.03:
        numbers[0] = numbers[1]
    if random.random() < 0.05:
        numbers = (numbers * 10)[:random.choice((0, 3, 5, 32, 33, 36, 40))]
    return raw_group(random.choice(GROUP_KEYS), numbers)


def random_keys(random):
    count = random.randint(0, 3)
    if random.random() < 0.1:
        return [random.choice(GROUP_KEYS) for key in range(count)]
    return random.sample(GROUP_KEYS, count)


def random_question(random):
    some_account = now_and_then_wild(random, random.choice(ACCOUNT_KEYS))
    some_group = now_and_then_wild(random, random.choice(GROUP_KEYS))
    good = now_and_then_wild(random, random.choice((1, 1, 1, 2, 3, 4)))
    amount = now_and_then_wild(random, random.randint(1, 12))
    return random.choice((
        ready(), can(*random_keys(random)), why(some_group), why(some_group), has(some_account, good),
        then(some_account, good), with_all(some_account, good), need(some_account, good, some_group),
        need(some_account, good, some_group), more(some_account, good, amount), row(some_account), legs(some_group),
        waiting(), moved(good),
    ))


def random_call(random):
    if random.random() < 0.4:
        return random_question(random)
    kind = random.choice("dddwlgggggghpposoo")
    some_account = now_and_then_wild(random, random.choice(ACCOUNT_KEYS))
    some_group = now_and_then_wild(random, random.choice(GROUP_KEYS))
    good = now_and_then_wild(random, random.choice((1, 1, 1, 2, 3, 4)))
    if kind == "d":
        return deposit(some_account, good, now_and_then_wild(random, random.randint(1, 6)))
    if kind == "w":
        return withdraw(some_account, good, now_and_then_wild(random, random.randint(1, 3)))
    if kind == "l":
        return limit(some_account, good, now_and_then_wild(random, random.randint(0, 5)))
    if kind == "g":
        return random_group(random)
    if kind == "h":
        return hold(some_group, now_and_then_wild(random, random.choice((0, 0, 0, 1))))
    if kind == "p":
        return place(some_account, some_group, now_and_then_wild(random, random.randint(1, 6)))
    if kind == "s":
        return random.choice((settle(), cancel(some_group), account(some_account)))
    return go(*random_keys(random))


def random_house(random):
    """Calls that fill a house with a few accounts and groups, in no order to be foreseen."""
    account_keys = random.sample(ACCOUNT_KEYS, random.randint(2, 4))
    calls = [account(key) for key in account_keys]
    for key in account_keys:
        for good in GOODS:
            calls += random.choice(([], [deposit(key, good, random.randint(1, 5))], [limit(key, good, 4)]))
    group_keys = random.sample(GROUP_KEYS, random.randint(2, 5))
    calls += [raw_group(key, random_legs(random, account_keys)) for key in group_keys]
    for move in range(random.randint(0, 2)):
        calls += [place(random.choice(account_keys), random.choice(group_keys), random.randint(1, 6))]
    if random.random() < 0.2:
        calls += [hold(random.choice(group_keys), 1)]
    return account_keys, group_keys, calls


def random_houses(random, count):
    return [random_house(random) for house in range(count)]


class HouseCase(unittest.TestCase):
    """Keeps the accounts and groups that a test's house may have, to look at all of them."""

    account_keys = (1, 2, 3, GREATEST_KEY)
    group_keys = (1, 2, 3, GREATEST_KEY)

    def assert_answers(self, calls, expected):
        self.assertEqual(ask(calls), expected)

    def assert_refused(self, before, call, refusal):
        """The refusal is answered alone, and the house shows the same as without the call."""
        self.assertEqual(last(list(before) + [call]), [refusal], call)
        self.assertEqual(
            seen(list(before) + [call], self.account_keys, self.group_keys),
            seen(before, self.account_keys, self.group_keys),
            call,
        )

    def assert_out_of_range(self, before, make, low, high):
        """make tells a call with one number; the numbers just outside and far outside are refused."""
        for number in (low - 1, high + 1, low - 2, high + 2, -FAR, FAR):
            self.assert_refused(before, make(number), -1)
