"""What would be if an account had more of a good."""

from settledatonce.book import Account, House
from settledatonce.rules import GREATEST_NEED
from settledatonce.settling import amounts_after, greatest_set, greatest_within, less, touching_groups


def with_more(house, account_key, good, amount):
    """A house like this one, but that the account has so much more; only questions may be asked of it."""
    account = house.accounts[account_key]
    richer = Account()
    richer.amounts = dict(account.amounts)
    richer.amounts[good] += amount
    richer.limits = account.limits
    richer.row = account.row
    supposed = House()
    supposed.accounts = dict(house.accounts)
    supposed.accounts[account_key] = richer
    supposed.groups = house.groups
    return supposed


def missing_amount(house, account_key, good, chosen):
    """How much more of the good keeps the account at its limit with the chosen groups gone."""
    after = amounts_after(house, chosen)[account_key][good]
    return max(0, -house.accounts[account_key].limits[good] - after)


def let_in(house, account_key, good, amount):
    """The groups that so much more brings into the greatest set."""
    return less(greatest_set(with_more(house, account_key, good, amount)), greatest_set(house))


def least_amounts(house, account_key, good, key):
    """The least amount that brings the group into the greatest set, in a list; empty if there's none."""
    # No line's legs move that much, so with it the account is never short of the good.
    supposed = with_more(house, account_key, good, GREATEST_NEED)
    chosen = greatest_set(supposed)
    found = []
    while key in chosen:
        found.append(missing_amount(house, account_key, good, chosen))
        touching = touching_groups(house, account_key, chosen)
        if len(touching) == 0:
            break
        # What is missing depends on how long a beginning of the account's row goes, so each is tried.
        chosen = greatest_within(supposed, less(chosen, {touching[-1]: True}))
    return [min(found)] if len(found) > 0 else []
