"""What the tests share: calls by name, and answers call by call."""

from wrongday.house import answers

PLACES = {
    "flight": 0, "late": 1, "air": 2, "feed": 3, "unfeed": 4, "times": 5, "why": 6, "table": 7,
    "cancel": 8, "swap": 9, "best": 10, "clock": 11,
}


class Unchanging(list):
    """A list that tells of every change, so that a change for a while is seen too."""

    def refuse(self, *arguments, **named):
        raise RuntimeError("what is handed in was changed")

    append = clear = extend = insert = pop = remove = reverse = sort = refuse
    __setitem__ = __delitem__ = __iadd__ = __imul__ = refuse


def divided(answered):
    """The answers, each a list, out of the one list with counts."""
    found = []
    at = 0
    while at < len(answered):
        count = answered[at]
        found.append(answered[at + 1:at + 1 + count])
        assert len(found[-1]) == count and count > 0
        at += 1 + count
    return found


def ask(*calls):
    """The answers to calls, each a tuple of a name (or place) and the numbers behind it."""
    numbers = []
    for call in calls:
        numbers.append(PLACES.get(call[0], call[0]))
        numbers.extend(call[1:])
    before = list(numbers)
    answered = answers(Unchanging(numbers))
    assert type(answered) is list and all(type(number) is int for number in answered)
    assert numbers == before
    found = divided(answered)
    assert len(found) == len(calls)
    return found


def last(*calls):
    """The answer to the last of the calls; those before must not be refused."""
    found = ask(*calls)
    for call, answer in zip(calls[:-1], found):
        assert answer[0] == 0, (call, answer)
    return found[-1]


def flight(number, tail, src, dst, dep, arr, turn=0, cap=100, others=0):
    return ("flight", number, tail, src, dst, dep, arr, turn, cap, others)
