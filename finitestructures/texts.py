"""Formulas written as texts, and texts read as formulas.

Neither way calls itself: a text may have any number of not, some and all
within one another.
"""

from finitestructures.errors import TextFault

EMPTY_WORDS = {"and": "true", "or": "false"}
EMPTY_ROWS = {"true": ("and", ()), "false": ("or", ())}
SIGNS = {"and": "&", "or": "|"}
KINDS = {"&": "and", "|": "or"}


def write(formula):
    """The text of a formula."""
    done = []
    waiting = [formula]
    while waiting:
        piece = waiting.pop()
        if isinstance(piece, str):
            done.append(piece)
        else:
            waiting.extend(pieces(alone(piece))[::-1])
    return "".join(done)


def alone(formula):
    """The row for which an and or an or with one row stands; any other formula itself."""
    while formula[0] in ("and", "or") and len(formula[1]) == 1:
        formula = formula[1][0]
    return formula


def pieces(formula):
    """Texts and formulas that make up the text of a formula, which is no and or or with one row."""
    kind = formula[0]
    if kind == "rel":
        names = ",".join(formula[2])
        return [f"{formula[1]}({names})"]
    if kind == "same":
        return [f"{formula[1]}={formula[2]}"]
    if kind == "not":
        return ["~", *guarded(formula[1])]
    if kind in ("some", "all"):
        return [f"{kind} {formula[1]}: ", formula[2]]
    if not formula[1]:
        return [EMPTY_WORDS[kind]]
    return joined(formula[1], f" {SIGNS[kind]} ")


def joined(rows, between):
    """The pieces of several rows."""
    found = guarded(rows[0])
    for row in rows[1:]:
        found.append(between)
        found.extend(guarded(row))
    return found


def guarded(formula):
    """The pieces of a formula behind a not, or between & or |: with parentheses where it needs them."""
    formula = alone(formula)
    kind = formula[0]
    if kind in ("some", "all") or (kind in ("and", "or") and formula[1]):
        return ["(", formula, ")"]
    return [formula]


class Reader:
    """A text and the place in it before which all has been read."""

    def __init__(self, text):
        self.text = text
        self.place = 0

    def here(self):
        """The sign at the place, "" at the end of the text."""
        return self.text[self.place:self.place + 1]

    def next_sign(self):
        """Pass over spaces, and tell the sign behind them."""
        while self.here() == " ":
            self.place += 1
        return self.here()

    def begins(self, word):
        """Whether the text goes on with a word."""
        return self.text.startswith(word, self.place)

    def take_word(self, word):
        """Pass over a word, which has to stand here, without spaces in it or ahead of it."""
        for sign in word:
            if self.here() != sign:
                raise TextFault(self.place)
            self.place += 1

    def take_sign(self, sign):
        """Pass over spaces and a sign, which has to stand behind them."""
        self.next_sign()
        self.take_word(sign)

    def take_name(self):
        """Pass over spaces and a name of a value, and tell it."""
        first = self.next_sign()
        if not "a" <= first <= "z":
            raise TextFault(self.place)
        self.place += 1
        digit = self.here()
        if not "0" <= digit <= "9":
            return first
        self.place += 1
        return first + digit


class Level:
    """What has been read behind a parenthesis that is not closed yet, or of the whole text."""

    def __init__(self, nots, binders):
        self.nots = nots
        self.binders = binders
        self.joint = None
        self.rows = []


def read(text):
    """The formula of a text; TextFault if it is none."""
    reader = Reader(text)
    levels = [Level(0, read_binders(reader))]
    while True:
        nots = read_nots(reader)
        if reader.next_sign() == "(":
            reader.take_sign("(")
            levels.append(Level(nots, read_binders(reader)))
            continue
        levels[-1].rows.append(denied(read_plain(reader), nots))
        close_levels(reader, levels)
        if reader.next_sign() == "" and len(levels) == 1:
            return whole(levels[0])
        read_joint(reader, levels[-1])


def read_binders(reader):
    """The some and all where a whole formula begins, as pairs of a kind and a name."""
    found = []
    while reader.next_sign() in ("s", "a"):
        if reader.begins("so"):
            kind = "some"
        elif reader.begins("al"):
            kind = "all"
        else:
            break
        reader.take_word(kind)
        reader.take_word(" ")
        found.append((kind, reader.take_name()))
        reader.take_sign(":")
    return found


def read_nots(reader):
    """How many ~ stand here."""
    many = 0
    while reader.next_sign() == "~":
        reader.take_sign("~")
        many += 1
    return many


def read_plain(reader):
    """A formula that is true, false, a rel or a same."""
    first = reader.next_sign()
    for word in EMPTY_ROWS:
        # No name of a value has two letters, so these two tell the word, even if it is cut short.
        if reader.begins(word[:2]):
            reader.take_word(word)
            return EMPTY_ROWS[word]
    if "A" <= first <= "Z":
        reader.take_sign(first)
        return ("rel", first, read_names(reader))
    one = reader.take_name()
    reader.take_sign("=")
    return ("same", one, reader.take_name())


def read_names(reader):
    """The name of a value, or two, in parentheses, behind the letter of a relation."""
    reader.take_sign("(")
    names = [reader.take_name()]
    # No relation has more than two places, so no second comma goes on.
    if reader.next_sign() == ",":
        reader.take_sign(",")
        names.append(reader.take_name())
    reader.take_sign(")")
    return tuple(names)


def close_levels(reader, levels):
    """Pass over all ) that stand here; what they close becomes a row of the level around it."""
    while reader.next_sign() == ")" and len(levels) > 1:
        reader.take_sign(")")
        closed = levels.pop()
        levels[-1].rows.append(denied(whole(closed), closed.nots))


def read_joint(reader, level):
    """Pass over & or |, which has to stand here, and be the one that the level has already."""
    joint = reader.next_sign()
    if joint not in KINDS or level.joint not in (None, joint):
        raise TextFault(reader.place)
    reader.take_sign(joint)
    level.joint = joint


def whole(level):
    """The formula of a level that has been read to its end."""
    formula = level.rows[0]
    if level.joint is not None:
        formula = (KINDS[level.joint], tuple(level.rows))
    for kind, name in level.binders[::-1]:
        formula = (kind, name, formula)
    return formula


def denied(formula, nots):
    """The formula behind so many not."""
    for _ in range(nots):
        formula = ("not", formula)
    return formula
