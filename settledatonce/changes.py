"""The calls that change something.

Each answers a list of numbers; a refusal is one number alone, and is answered before anything is changed.
"""

from settledatonce.book import Account, Group, Leg
from settledatonce.rules import BELOW_LIMIT, CANNOT_BE, FULL, KEY_TAKEN, NOT_THERE, NOT_TOUCHED
from settledatonce.rules import OUT_OF_RANGE, TOO_MUCH, TWICE
from settledatonce.rules import GREATEST_AFTER_DEPOSIT, MOST_ACCOUNTS, MOST_GROUPS, MOST_LEGS, NUMBERS_OF_A_LEG
from settledatonce.rules import is_amount, is_good, is_key, is_limit, is_place, list_refusal
from settledatonce.settling import amounts_after, can_go, greatest_set, groups_told


def add_account(house, key):
    if not is_key(key):
        return [OUT_OF_RANGE]
    if key in house.accounts:
        return [KEY_TAKEN]
    if len(house.accounts) == MOST_ACCOUNTS:
        return [FULL]
    house.accounts[key] = Account()
    return [0]


def deposit(house, account_key, good, amount):
    if not (is_key(account_key) and is_good(good) and is_amount(amount)):
        return [OUT_OF_RANGE]
    if account_key not in house.accounts:
        return [NOT_THERE]
    amounts = house.accounts[account_key].amounts
    after = amounts[good] + amount
    if after > GREATEST_AFTER_DEPOSIT:
        return [TOO_MUCH]
    amounts[good] = after
    return [after]


def withdraw(house, account_key, good, amount):
    if not (is_key(account_key) and is_good(good) and is_amount(amount)):
        return [OUT_OF_RANGE]
    if account_key not in house.accounts:
        return [NOT_THERE]
    account = house.accounts[account_key]
    after = account.amounts[good] - amount
    if after < -account.limits[good]:
        return [BELOW_LIMIT]
    account.amounts[good] = after
    return [after]


def set_limit(house, account_key, good, limit):
    if not (is_key(account_key) and is_good(good) and is_limit(limit)):
        return [OUT_OF_RANGE]
    if account_key not in house.accounts:
        return [NOT_THERE]
    account = house.accounts[account_key]
    if account.amounts[good] < -limit:
        return [BELOW_LIMIT]
    before = account.limits[good]
    account.limits[good] = limit
    return [before]


def cut_legs(numbers):
    """The legs of a list that has four numbers for each."""
    legs = []
    for start in range(0, len(numbers), NUMBERS_OF_A_LEG):
        legs.append(Leg(numbers[start], numbers[start + 1], numbers[start + 2], numbers[start + 3]))
    return legs


def is_leg(leg):
    return is_key(leg.giver) and is_key(leg.taker) and is_good(leg.good) and is_amount(leg.amount)


def are_legs(numbers):
    if len(numbers) % NUMBERS_OF_A_LEG != 0 or not 1 <= len(numbers) // NUMBERS_OF_A_LEG <= MOST_LEGS:
        return False
    return all([is_leg(leg) for leg in cut_legs(numbers)])


def touched_accounts(legs):
    """The keys of the legs' accounts, each once."""
    touched = {}
    for leg in legs:
        touched[leg.giver] = True
        touched[leg.taker] = True
    return list(touched)


def add_group(house, key, numbers):
    if not (is_key(key) and are_legs(numbers)):
        return [OUT_OF_RANGE]
    legs = cut_legs(numbers)
    if any([leg.giver == leg.taker for leg in legs]):
        return [TWICE]
    if key in house.groups:
        return [KEY_TAKEN]
    touched = touched_accounts(legs)
    if any([account_key not in house.accounts for account_key in touched]):
        return [NOT_THERE]
    if len(house.groups) == MOST_GROUPS:
        return [FULL]
    house.groups[key] = Group(legs)
    for account_key in touched:
        house.accounts[account_key].row.append(key)
    return [0]


def take_out(house, gone):
    """The groups told as a dict that has True for each are in the house and in the rows no more."""
    for key in gone:
        house.groups.pop(key)
    for account in house.accounts.values():
        account.row = [key for key in account.row if key not in gone]


def cancel(house, key):
    if not is_key(key):
        return [OUT_OF_RANGE]
    if key not in house.groups:
        return [NOT_THERE]
    take_out(house, {key: True})
    return [0]


def hold(house, key, held):
    if not is_key(key) or not 0 <= held <= 1:
        return [OUT_OF_RANGE]
    if key not in house.groups:
        return [NOT_THERE]
    group = house.groups[key]
    before = group.held
    group.held = held
    return [before]


def place(house, account_key, key, n):
    if not (is_key(account_key) and is_key(key) and is_place(n)):
        return [OUT_OF_RANGE]
    if account_key not in house.accounts or key not in house.groups:
        return [NOT_THERE]
    account = house.accounts[account_key]
    if key not in account.row:
        return [NOT_TOUCHED]
    before = account.row.index(key) + 1
    others = [other for other in account.row if other != key]
    account.row = others[:n - 1] + [key] + others[n - 1:]
    return [before]


def let_go(house, chosen):
    after = amounts_after(house, chosen)
    for key, account in house.accounts.items():
        account.amounts = after[key]
    take_out(house, chosen)
    return [len(chosen)]


def settle(house):
    return let_go(house, greatest_set(house))


def go(house, keys):
    refusal = list_refusal(house, keys)
    if refusal != 0:
        return [refusal]
    chosen = groups_told(keys)
    if not can_go(house, chosen):
        return [CANNOT_BE]
    return let_go(house, chosen)
