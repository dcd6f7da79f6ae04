"""Calls by their names, and answers one by one, for the tests."""

from graphwaves.waves import answers

NUMBERS = {
    "graph": 0, "told": 1, "kind": 2, "set": 3, "config": 4, "run": 5, "counts": 6, "time": 7,
    "lean": 8, "walk": 9, "heights": 10, "windings": 11, "ring": 12, "lives": 13, "end": 14, "best": 15,
    "speed": 16, "course": 17, "ball": 18, "parts": 19, "turn": 20, "rename": 21,
}

LEAST = -9223372036854775808
GREATEST = 9223372036854775807


def flat(calls):
    """Put calls such as ("graph", 2, [0, 1]) one behind another in one list."""
    numbers = []
    for call in calls:
        numbers.append(NUMBERS[call[0]])
        for value in call[1:]:
            if isinstance(value, list):
                numbers.append(len(value))
                numbers.extend(value)
            else:
                numbers.append(value)
    return numbers


def apart(answered):
    """Take the one list of answers apart into a list for each call."""
    parts = []
    place = 0
    while place < len(answered):
        behind = place + 1 + answered[place]
        assert answered[place] >= 1 and behind <= len(answered), answered
        parts.append(answered[place + 1:behind])
        place = behind
    return parts


def ask(*calls):
    """Make the calls on a new object; give back a list of answers, one for each call."""
    parts = apart(answers(flat(calls)))
    assert len(parts) == len(calls), (calls, parts)
    return parts


def last(*calls):
    """Make the calls on a new object; give back the last one's answer."""
    return ask(*calls)[-1]


def path(n):
    """The edges of a path through n cells."""
    return [cell for a in range(n - 1) for cell in (a, a + 1)]


def ring(n):
    """The edges of a ring of n cells."""
    return path(n) + [n - 1, 0]


def complete(n):
    """The edges between all cells."""
    return [cell for a in range(n) for b in range(a + 1, n) for cell in (a, b)]


# What these answer tells all of an object's state: the kind shows in what the runs do.
LOOKS = (
    ("told",), ("config",), ("counts",), ("time",), ("heights",),
    ("run", 1), ("config",), ("run", 7), ("config",), ("counts",), ("time",),
)

# States before a call that is to be refused: every value of the object is another one than in a new object.
BEFORE = {
    "chase": (("graph", 5, [4, 1, 1, 0, 2, 3, 0, 4]), ("set", [0, 1, 1, 1, 2]), ("run", 1)),
    "fire": (("kind", 1), ("graph", 5, [4, 1, 1, 0, 2, 3, 0, 4]), ("set", [0, 1, 1, 1, 2]), ("run", 1)),
    "new": (),
}


def check_refused(test, call, refusal, name):
    """The call is answered by the refusal alone, and all is afterwards as it was."""
    before = BEFORE[name]
    plain = ask(*before, *LOOKS)[len(before):]
    tried = ask(*before, call, *LOOKS)[len(before):]
    with test.subTest(call=call, before=name):
        test.assertEqual(tried[0], [refusal])
        test.assertEqual(tried[1:], plain)


def check_refused_everywhere(test, call, refusal):
    """The same on a new object and on those of a graph of 5 cells."""
    for name in BEFORE:
        check_refused(test, call, refusal, name)
