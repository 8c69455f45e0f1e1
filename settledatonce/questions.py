"""The calls that change nothing. Each answers a list of numbers; a refusal is one number alone."""

from settledatonce.reasons import reason
from settledatonce.rules import CANNOT_BE, NOT_THERE, OUT_OF_RANGE
from settledatonce.rules import is_amount, is_good, is_key, list_refusal
from settledatonce.settling import amounts_after, can_go, greatest_set, groups_told
from settledatonce.supposing import least_amounts, let_in


def counted(keys):
    return [len(keys)] + keys


def ready(house):
    return counted(sorted(greatest_set(house)))


def can(house, keys):
    refusal = list_refusal(house, keys)
    if refusal != 0:
        return [refusal]
    return [1 if can_go(house, groups_told(keys)) else 0]


def why(house, key):
    if not is_key(key):
        return [OUT_OF_RANGE]
    if key not in house.groups:
        return [NOT_THERE]
    found = reason(house, key)
    return found if len(found) > 0 else [CANNOT_BE]


def good_refusal(house, account_key, good):
    """The refusal of an account and a good, or 0 if there's none."""
    if not (is_key(account_key) and is_good(good)):
        return OUT_OF_RANGE
    if account_key not in house.accounts:
        return NOT_THERE
    return 0


def has(house, account_key, good):
    refusal = good_refusal(house, account_key, good)
    if refusal != 0:
        return [refusal]
    account = house.accounts[account_key]
    return [account.amounts[good], account.limits[good]]


def then(house, account_key, good):
    refusal = good_refusal(house, account_key, good)
    if refusal != 0:
        return [refusal]
    return [amounts_after(house, greatest_set(house))[account_key][good]]


def with_all(house, account_key, good):
    refusal = good_refusal(house, account_key, good)
    if refusal != 0:
        return [refusal]
    return [amounts_after(house, house.groups)[account_key][good]]


def need(house, account_key, good, key):
    if not (is_key(account_key) and is_good(good) and is_key(key)):
        return [OUT_OF_RANGE]
    if account_key not in house.accounts or key not in house.groups:
        return [NOT_THERE]
    found = least_amounts(house, account_key, good, key)
    return found if len(found) > 0 else [CANNOT_BE]


def more(house, account_key, good, amount):
    if not (is_key(account_key) and is_good(good) and is_amount(amount)):
        return [OUT_OF_RANGE]
    if account_key not in house.accounts:
        return [NOT_THERE]
    return counted(sorted(let_in(house, account_key, good, amount)))


def row(house, account_key):
    if not is_key(account_key):
        return [OUT_OF_RANGE]
    if account_key not in house.accounts:
        return [NOT_THERE]
    return counted(house.accounts[account_key].row)


def legs(house, key):
    if not is_key(key):
        return [OUT_OF_RANGE]
    if key not in house.groups:
        return [NOT_THERE]
    group = house.groups[key]
    numbers = [group.held, len(group.legs)]
    for leg in group.legs:
        numbers.extend([leg.giver, leg.taker, leg.good, leg.amount])
    return numbers


def waiting(house):
    return counted(sorted(house.groups))


def moved(house, good):
    if not is_good(good):
        return [OUT_OF_RANGE]
    chosen = greatest_set(house)
    after = amounts_after(house, chosen)
    by_legs = 0
    for key in chosen:
        by_legs += sum([leg.amount for leg in house.groups[key].legs if leg.good == good])
    given_up = 0
    for key, account in house.accounts.items():
        given_up += max(0, account.amounts[good] - after[key][good])
    return [by_legs, given_up]
