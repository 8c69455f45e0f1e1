"""Which groups can go at once.

Some groups are told as a dict that has the key of each of them.
"""

from settledatonce.rules import GOODS


def groups_told(keys):
    chosen = {}
    for key in keys:
        chosen[key] = True
    return chosen


def amounts_after(house, chosen):
    """What each account has of each good with the legs of the chosen groups done."""
    after = {}
    for key, account in house.accounts.items():
        after[key] = dict(account.amounts)
    for key in chosen:
        for leg in house.groups[key].legs:
            after[leg.giver][leg.good] -= leg.amount
            after[leg.taker][leg.good] += leg.amount
    return after


def short_accounts(house, chosen):
    """The accounts that would be below a limit with the chosen groups gone, rising.

    Each has the lowest good of which it would be below.
    """
    after = amounts_after(house, chosen)
    short = {}
    for key in sorted(house.accounts):
        limits = house.accounts[key].limits
        below = [good for good in GOODS if after[key][good] < -limits[good]]
        if len(below) > 0:
            short[key] = below[0]
    return short


def blocked_groups(house, chosen):
    """Those of the chosen groups that stand behind one that isn't chosen, in some row."""
    blocked = {}
    for account in house.accounts.values():
        free = True
        for key in account.row:
            if key not in chosen:
                free = False
            elif not free:
                blocked[key] = True
    return blocked


def less(chosen, away):
    kept = {}
    for key in chosen:
        if key not in away:
            kept[key] = True
    return kept


def less_blocked(house, chosen):
    """Take away what is blocked, then what is blocked by that, and so on."""
    kept = chosen
    blocked = blocked_groups(house, kept)
    while len(blocked) > 0:
        kept = less(kept, blocked)
        blocked = blocked_groups(house, kept)
    return kept


def free_groups(house):
    free = {}
    for key, group in house.groups.items():
        if group.held == 0:
            free[key] = True
    return free


def touching_groups(house, account_key, chosen):
    """Those of the chosen groups that touch the account, in its row's order."""
    return [key for key in house.accounts[account_key].row if key in chosen]


def culprits(house, chosen):
    """The last chosen group of each short account; each has the lowest account whose last one it is."""
    found = {}
    for key in short_accounts(house, chosen):
        # Nobody is below a limit with nothing done, so a short account is touched by a chosen group.
        found.setdefault(touching_groups(house, key, chosen)[-1], key)
    return found


def rounds(house, chosen):
    """The sets of round 0, 1, 2, and so on that come from some groups; the last one has no culprit."""
    sets = [less_blocked(house, chosen)]
    away = culprits(house, sets[-1])
    while len(away) > 0:
        sets.append(less_blocked(house, less(sets[-1], away)))
        away = culprits(house, sets[-1])
    return sets


def greatest_within(house, chosen):
    """The greatest set that can go of some groups, none of which is held."""
    # A set that can go has a shorter beginning of a short account's row, so it never has the culprit.
    return rounds(house, chosen)[-1]


def greatest_set(house):
    return greatest_within(house, free_groups(house))


def can_go(house, chosen):
    if any([house.groups[key].held == 1 for key in chosen]):
        return False
    if len(blocked_groups(house, chosen)) > 0:
        return False
    return len(short_accounts(house, chosen)) == 0
