"""What the tests share: calls by name, and answers call by call."""

from wrongday.house import answers

PLACES = {
    "flight": 0, "late": 1, "air": 2, "feed": 3, "unfeed": 4, "times": 5, "why": 6, "table": 7,
    "cancel": 8, "swap": 9, "best": 10, "clock": 11, "book": 12, "drop": 13, "miss": 14, "refuse": 15,
    "where": 16, "wishes": 17, "rebook": 18, "could": 19, "steps": 20, "claim": 21, "load": 22,
}


class Unchanging(list):
    """A list that tells of every change, so that a change for a while is seen too."""

    def refuse(self, *arguments, **named):
        raise RuntimeError("what is handed in was changed")

    append = clear = extend = insert = pop = remove = reverse = sort = refuse
    __setitem__ = __delitem__ = __iadd__ = __imul__ = refuse


def divided(answered):
    """The answers, each a list, out of the one list with counts."""
    found = []
    at = 0
    while at < len(answered):
        count = answered[at]
        found.append(answered[at + 1:at + 1 + count])
        assert len(found[-1]) == count and count > 0
        at += 1 + count
    return found


def flat(call):
    """The numbers of a call, a tuple of its name (or place) and what's behind it: numbers, or a row as a list."""
    numbers = [PLACES.get(call[0], call[0])]
    for part in call[1:]:
        numbers.extend([len(part)] + part if isinstance(part, list) else [part])
    return numbers


def ask(*calls):
    """The answers to calls, as `flat` takes them."""
    numbers = [number for call in calls for number in flat(call)]
    handed = Unchanging(numbers)
    answered = answers(handed)
    assert type(answered) is list and all(type(number) is int for number in answered)
    assert handed == numbers
    found = divided(answered)
    assert len(found) == len(calls)
    return found


def last(*calls):
    """The answer to the last of the calls; those before must not be refused."""
    found = ask(*calls)
    for call, answer in zip(calls[:-1], found):
        assert answer[0] == 0, (call, answer)
    return found[-1]


def flight(number, tail, src, dst, dep, arr, turn=0, cap=100, others=0):
    return ("flight", number, tail, src, dst, dep, arr, turn, cap, others)


def book(number, on, rank=5, ready=0, latest=99999999):
    return ("book", number, rank, on, ready, latest)
