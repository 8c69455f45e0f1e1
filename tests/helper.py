"""How the tests tell calls, take the answers apart, and see what a house holds."""

import unittest

from settledatonce.house import answers

FAR = 10 ** 18
GREATEST_KEY = 1000000000
GREATEST_AMOUNT = 1000000000000
GREATEST_AFTER_DEPOSIT = 10000000000000


def account(key):
    return [0, key]


def deposit(account_key, good, amount):
    return [1, account_key, good, amount]


def withdraw(account_key, good, amount):
    return [2, account_key, good, amount]


def limit(account_key, good, amount):
    return [3, account_key, good, amount]


def raw_group(key, numbers):
    return [4, key, len(numbers)] + list(numbers)


def group(key, *legs):
    return raw_group(key, [number for leg in legs for number in leg])


def cancel(key):
    return [5, key]


def hold(key, held):
    return [6, key, held]


def place(account_key, key, n):
    return [7, account_key, key, n]


def settle():
    return [8]


def go(*keys):
    return [9, len(keys)] + list(keys)


def ready():
    return [10]


def flat(calls):
    return [number for call in calls for number in call]


def ask(calls):
    """The answer of each call, a list each."""
    if not calls:
        return []
    given = answers(flat(calls))
    taken = []
    at = 0
    while at < len(given):
        taken.append(given[at + 1:at + 1 + given[at]])
        at += 1 + given[at]
    if at != len(given) or len(taken) != len(calls) or [] in taken:
        raise AssertionError(f"not one answer for each call: {given}")
    return taken


def last(calls):
    return ask(calls)[-1]


def probe(account_keys, group_keys):
    """Calls that show what there is: sets, limits, amounts, holds, rows, and what each group does."""
    calls = [ready()]
    for key in account_keys:
        for good in (1, 2, 3, 4):
            calls.append(limit(key, good, GREATEST_AMOUNT))
            calls.append(withdraw(key, good, 1))
    for group_key in group_keys:
        calls.append(hold(group_key, 0))
        for key in account_keys:
            # Each group in turn goes to the end, so the answers tell the whole order.
            calls.append(place(key, group_key, 24))
    for group_key in group_keys:
        calls.append(go(group_key))
    for key in account_keys:
        for good in (1, 2, 3, 4):
            calls.append(deposit(key, good, 1))
    return calls


def seen(calls, account_keys, group_keys):
    """What a house shows once these calls are done."""
    return ask(list(calls) + probe(account_keys, group_keys))[len(calls):]


class HouseCase(unittest.TestCase):
    """Keeps the accounts and groups that a test's house may have, to look at all of them."""

    account_keys = (1, 2, 3, GREATEST_KEY)
    group_keys = (1, 2, 3, GREATEST_KEY)

    def assert_answers(self, calls, expected):
        self.assertEqual(ask(calls), expected)

    def assert_refused(self, before, call, refusal):
        """The refusal is answered alone, and the house shows the same as without the call."""
        self.assertEqual(last(list(before) + [call]), [refusal], call)
        self.assertEqual(
            seen(list(before) + [call], self.account_keys, self.group_keys),
            seen(before, self.account_keys, self.group_keys),
            call,
        )

    def assert_out_of_range(self, before, make, low, high):
        """make tells a call with one number; the numbers just outside and far outside are refused."""
        for number in (low - 1, high + 1, low - 2, high + 2, -FAR, FAR):
            self.assert_refused(before, make(number), -1)
