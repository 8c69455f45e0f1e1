"""Calls on a new house, told in one list of whole numbers, and their answers."""

from settledatonce.book import House
from settledatonce.changes import add_account, deposit, set_limit, withdraw
from settledatonce.changes import add_group, cancel, go, hold, place, settle
from settledatonce.questions import can, has, legs, more, moved, need, ready, row, then, waiting, why, with_all

# By a call's number: how many whole numbers it has ahead of its list.
WHOLE_NUMBERS = (1, 3, 3, 3, 1, 1, 2, 3, 0, 0, 0, 0, 1, 2, 2, 2, 3, 3, 1, 1, 0, 1)
# The numbers of the calls that have a list: group, go and can.
WITH_A_LIST = (4, 9, 11)
# The number of ready: this call and those behind it change nothing.
FIRST_QUESTION = 10


def answer_change(house, number, told, listed):
    if number == 0:
        return add_account(house, told[0])
    if number == 1:
        return deposit(house, told[0], told[1], told[2])
    if number == 2:
        return withdraw(house, told[0], told[1], told[2])
    if number == 3:
        return set_limit(house, told[0], told[1], told[2])
    if number == 4:
        return add_group(house, told[0], listed)
    if number == 5:
        return cancel(house, told[0])
    if number == 6:
        return hold(house, told[0], told[1])
    if number == 7:
        return place(house, told[0], told[1], told[2])
    if number == 8:
        return settle(house)
    return go(house, listed)


def answer_question(house, number, told, listed):
    if number == 10:
        return ready(house)
    if number == 11:
        return can(house, listed)
    if number == 12:
        return why(house, told[0])
    if number == 13:
        return has(house, told[0], told[1])
    if number == 14:
        return then(house, told[0], told[1])
    if number == 15:
        return with_all(house, told[0], told[1])
    if number == 16:
        return need(house, told[0], told[1], told[2])
    if number == 17:
        return more(house, told[0], told[1], told[2])
    if number == 18:
        return row(house, told[0])
    if number == 19:
        return legs(house, told[0])
    if number == 20:
        return waiting(house)
    return moved(house, told[0])


def answer(house, number, told, listed):
    if number < FIRST_QUESTION:
        return answer_change(house, number, told, listed)
    return answer_question(house, number, told, listed)


def answers(calls):
    """For each call, in order: how many numbers are answered, then these."""
    house = House()
    given = []
    at = 0
    while at < len(calls):
        number = calls[at]
        start = at + 1
        at = start + WHOLE_NUMBERS[number]
        told = calls[start:at]
        listed = []
        if number in WITH_A_LIST:
            start = at + 1
            at = start + calls[start - 1]
            listed = calls[start:at]
        numbers = answer(house, number, told, listed)
        given.append(len(numbers))
        given.extend(numbers)
    return given
