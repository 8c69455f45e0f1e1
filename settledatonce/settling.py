"""Which groups can go at once.

Some groups are told as a dict that has True for the key of each of them.
"""

from settledatonce.rules import GOODS


def amounts_after(house, chosen):
    """What each account has of each good with the legs of the chosen groups done."""
    after = {}
    for key, account in house.accounts.items():
        after[key] = dict(account.amounts)
    for key in chosen:
        for leg in house.groups[key].legs:
            after[leg.giver][leg.good] -= leg.amount
            after[leg.taker][leg.good] += leg.amount
    return after


def short_accounts(house, chosen):
    """The keys of the accounts that would be below a limit with the chosen groups gone."""
    after = amounts_after(house, chosen)
    short = []
    for key, account in house.accounts.items():
        if any([after[key][good] < -account.limits[good] for good in GOODS]):
            short.append(key)
    return short


def blocked_groups(house, chosen):
    """Those of the chosen groups that stand behind one that isn't chosen, in some row."""
    blocked = {}
    for account in house.accounts.values():
        free = True
        for key in account.row:
            if key not in chosen:
                free = False
            elif not free:
                blocked[key] = True
    return blocked


def less(chosen, away):
    kept = {}
    for key in chosen:
        if key not in away:
            kept[key] = True
    return kept


def less_blocked(house, chosen):
    """Take away what is blocked, then what is blocked by that, and so on."""
    kept = chosen
    blocked = blocked_groups(house, kept)
    while len(blocked) > 0:
        kept = less(kept, blocked)
        blocked = blocked_groups(house, kept)
    return kept


def first_set(house):
    """The set of round 0: no group of it is held or waits behind a held one."""
    free = {}
    for key, group in house.groups.items():
        if group.held == 0:
            free[key] = True
    return less_blocked(house, free)


def culprits(house, chosen):
    """The last chosen group in the row of each short account."""
    last = {}
    for key in short_accounts(house, chosen):
        # Nobody is below a limit with nothing done, so a short account is touched by a chosen group.
        touching = [other for other in house.accounts[key].row if other in chosen]
        last[touching[-1]] = True
    return last


def greatest_set(house):
    # A set that can go has a shorter beginning of a short account's row, so it never has the culprit.
    chosen = first_set(house)
    away = culprits(house, chosen)
    while len(away) > 0:
        chosen = less_blocked(house, less(chosen, away))
        away = culprits(house, chosen)
    return chosen


def can_go(house, chosen):
    if any([house.groups[key].held == 1 for key in chosen]):
        return False
    if len(blocked_groups(house, chosen)) > 0:
        return False
    return len(short_accounts(house, chosen)) == 0
