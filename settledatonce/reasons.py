"""Why a group isn't in the greatest set."""

from settledatonce.settling import culprits, free_groups, rounds, short_accounts

SHORT = 1
BEHIND = 2
HELD = 3


def first_ahead(house, key, chosen):
    """The lowest account in whose row a group that isn't chosen stands before this one, and the row's first such."""
    found = []
    for account_key in sorted(house.accounts):
        row = house.accounts[account_key].row
        if key in row:
            ahead = [other for other in row[:row.index(key)] if other not in chosen]
            if len(ahead) > 0:
                found.append([account_key, ahead[0]])
    return found[0]


def reason(house, key):
    """The round at which the group is out, then what keeps it back; empty if it's in the greatest set."""
    if house.groups[key].held == 1:
        return [0, HELD, 0, 0]
    sets = rounds(house, free_groups(house))
    if key in sets[-1]:
        return []
    # A round's set is a part of the one before, so a group never comes back.
    out_at = len([chosen for chosen in sets if key in chosen])
    if out_at > 0:
        before = sets[out_at - 1]
        away = culprits(house, before)
        if key in away:
            return [out_at, SHORT, away[key], short_accounts(house, before)[away[key]]]
    return [out_at, BEHIND] + first_ahead(house, key, sets[out_at])
