"""Values that differ from a right one at one place."""

JUNK = (None, True, False, 0, 1, -1, 7, "", "v0", "strategy", (), [], {}, ((),), (0,), 1.0, b"x", object())

WORDS = (
    "and", "or", "not", "some", "all", "rel", "same", "strategy", "formula", "E", "R", "Q", "v", "v0", "v1", "v2", "v9",
    "x", "V0", "v10", "v00", "0v", "vv", " v0", "v0 ", "v\u00b2", "\u00e9", "{", "`", "v/", "v:", "", "true", "EE", "e",
)


class Sly:
    """What takes itself for the same as everything."""

    def __eq__(self, other):
        return True

    def __hash__(self):
        return hash("or")


class Touchy:
    """What cannot be compared."""

    def __eq__(self, other):
        raise ValueError("not to be compared")

    __lt__ = __gt__ = __hash__ = __eq__


def changes(value):
    """Copies of a value of tuples, texts and ints, each changed at one place."""
    found = list(JUNK)
    if type(value) is int:
        found.extend([value + 1, value - 1, -1 - value, bool(value), float(value), str(value), (value,)])
    elif type(value) is str:
        found.extend([*WORDS, value + "0", value.upper(), (value,), value.encode("utf-8")])
    elif type(value) is tuple:
        found.extend(tuple_changes(value))
    return found


def tuple_changes(value):
    """Copies of a tuple: of another kind, with an item left out, twice, exchanged with the next one, or changed."""
    found = [list(value), (value,), value[::-1], dict(enumerate(value))]
    for at, item in enumerate(value):
        found.append(value[:at] + value[at + 1:])
        found.append(value[:at] + (item, item) + value[at + 1:])
        found.append(value[:at] + value[at:at + 2][::-1] + value[at + 2:])
        found.extend([value[:at] + (other,) + value[at + 1:] for other in changes(item)])
    for item in (None, 0, (), ((), ()), ("and", ()), "v0"):
        found.extend([(item,) + value, value + (item,)])
    return found
