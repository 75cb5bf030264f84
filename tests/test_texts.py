import re
import unittest

from finitestructures.errors import StructureFault, TextFault
from finitestructures.texts import read, write
from tests import plain
from tests.samples import formulas

TRUE = ("and", ())
FALSE = ("or", ())
A = ("same", "x", "y")
B = ("rel", "R", ("x",))
C = ("rel", "E", ("x", "y"))
AND = ("and", (A, B))
OR = ("or", (A, B))
SOME = ("some", "x", AND)
ALL = ("all", "y", A)

WRITTEN = (
    (A, "x=y"),
    (B, "R(x)"),
    (C, "E(x,y)"),
    (("rel", "Q", ("a0", "z9")), "Q(a0,z9)"),
    (("same", "v0", "v1"), "v0=v1"),
    (TRUE, "true"),
    (FALSE, "false"),
    (AND, "x=y & R(x)"),
    (OR, "x=y | R(x)"),
    (("or", (A, B, C)), "x=y | R(x) | E(x,y)"),
    (SOME, "some x: x=y & R(x)"),
    (ALL, "all y: x=y"),
    (("some", "x1", ("all", "x1", OR)), "some x1: all x1: x=y | R(x)"),
    (("all", "x", TRUE), "all x: true"),
    # not
    (("not", A), "~x=y"),
    (("not", B), "~R(x)"),
    (("not", ("not", A)), "~~x=y"),
    (("not", TRUE), "~true"),
    (("not", FALSE), "~false"),
    (("not", AND), "~(x=y & R(x))"),
    (("not", ("not", OR)), "~~(x=y | R(x))"),
    (("not", SOME), "~(some x: x=y & R(x))"),
    (("not", ALL), "~(all y: x=y)"),
    # not ahead of one row
    (("not", ("and", (A,))), "~x=y"),
    (("not", ("or", (FALSE,))), "~false"),
    (("not", ("and", (OR,))), "~(x=y | R(x))"),
    (("not", ("or", (("and", (SOME,)),))), "~(some x: x=y & R(x))"),
    (("not", ("or", (("not", A),))), "~~x=y"),
    # rows
    (("and", (OR, A)), "(x=y | R(x)) & x=y"),
    (("and", (A, AND)), "x=y & (x=y & R(x))"),
    (("or", (OR, OR)), "(x=y | R(x)) | (x=y | R(x))"),
    (("or", (SOME, ALL)), "(some x: x=y & R(x)) | (all y: x=y)"),
    (("and", (("not", OR), ("not", A))), "~(x=y | R(x)) & ~x=y"),
    (("and", (TRUE, FALSE)), "true & false"),
    (("or", (TRUE, FALSE, TRUE)), "true | false | true"),
    # one row
    (("and", (A,)), "x=y"),
    (("or", (A,)), "x=y"),
    (("and", (("or", (("and", (B,)),)),)), "R(x)"),
    (("or", (TRUE,)), "true"),
    (("and", (FALSE,)), "false"),
    (("and", (OR,)), "x=y | R(x)"),
    (("or", (SOME,)), "some x: x=y & R(x)"),
    (("and", (("or", (A,)), B)), "x=y & R(x)"),
    (("and", (("or", (AND,)), B)), "(x=y & R(x)) & R(x)"),
    (("or", (A, ("and", (ALL,)))), "x=y | (all y: x=y)"),
    (("some", "x", ("and", (SOME,))), "some x: some x: x=y & R(x)"),
    (("and", (("or", (TRUE,)), ("and", (FALSE,)))), "true & false"),
)

READ = (
    ("x=y", A),
    ("  x  =  y  ", A),
    ("R ( x )", B),
    (" E ( x , y ) ", C),
    ("E(x)&E(x,y)", ("and", (("rel", "E", ("x",)), C))),
    ("((x=y))", A),
    ("( ( x=y ) )", A),
    ("x=y&R(x)", AND),
    ("(x=y)|(R(x))", OR),
    ("((x=y|R(x)))", OR),
    ("x=y & (R(x) & x=y)", ("and", (A, ("and", (B, A))))),
    ("(x=y & R(x)) & x=y", ("and", (AND, A))),
    ("~ ~ ( ~ x=y )", ("not", ("not", ("not", A)))),
    ("~(x=y)", ("not", A)),
    ("~x=y & R(x)", ("and", (("not", A), B))),
    ("~(x=y) & R(x)", ("and", (("not", A), B))),
    ("~((x=y & R(x)))", ("not", AND)),
    ("~~(x=y|R(x))|~true", ("or", (("not", ("not", OR)), ("not", TRUE)))),
    ("some x: x=y & R(x)", SOME),
    ("  some   x  :x=y&R(x)", SOME),
    ("(some x: x=y & R(x))", SOME),
    ("( some x: (x=y) & R(x))", SOME),
    ("some x: (x=y & R(x))", SOME),
    ("(some x: x=y) & R(x)", ("and", (("some", "x", A), B))),
    ("R(x) & (some x: x=y)", ("and", (B, ("some", "x", A)))),
    ("all y:all y:x=y", ("all", "y", ALL)),
    ("all y: (some x: x=y & R(x))", ("all", "y", SOME)),
    ("~(all y: x=y)", ("not", ALL)),
    ("~ ( (all y: x=y) )", ("not", ALL)),
    ("true", TRUE),
    (" ( false ) ", FALSE),
    ("true&false", ("and", (TRUE, FALSE))),
    ("~true", ("not", TRUE)),
    ("some t: false", ("some", "t", FALSE)),
    # Letters with which words begin are names as well.
    ("t=f", ("same", "t", "f")),
    ("s=a", ("same", "s", "a")),
    ("~s=a & a=s", ("and", (("not", ("same", "s", "a")), ("same", "a", "s")))),
    ("t0=f1 | s2=a3", ("or", (("same", "t0", "f1"), ("same", "s2", "a3")))),
    ("some s: all a: s=a", ("some", "s", ("all", "a", ("same", "s", "a")))),
    ("T(t)&F(f,a)", ("and", (("rel", "T", ("t",)), ("rel", "F", ("f", "a"))))),
    # The first and the last letter, and the first and the last digit.
    ("A(a)&Z(z)", ("and", (("rel", "A", ("a",)), ("rel", "Z", ("z",))))),
    ("a=z | a0=z9", ("or", (("same", "a", "z"), ("same", "a0", "z9")))),
    ("all a0: some z9: A(a0,z9)", ("all", "a0", ("some", "z9", ("rel", "A", ("a0", "z9"))))),
)

# Each row: a text that is none, and the place of the fault.
FAULTS = (
    ("", 0), (" ", 1), ("    ", 4),
    # cut short
    ("x", 1), ("x1", 2), ("x ", 2), ("x=", 2), ("x= ", 3), ("x = ", 4),
    ("R", 1), ("R ", 2), ("R(", 2), ("R( ", 3), ("R(x", 3), ("R(x ", 4), ("R(x,", 4), ("R(x, ", 5), ("R(x,y", 5),
    ("~", 1), ("~ ", 2), ("~~", 2), ("(", 1), ("((", 2), ("(x=y", 4), ("((x=y)", 6), ("(x=y ", 5), ("~(x=y", 5),
    ("x=y &", 5), ("x=y & ", 6), ("x=y |", 5), ("x=y & R(x) &", 12), ("x=y & (", 7),
    ("some x: ", 8), ("some x:", 7), ("some x", 6), ("some ", 5), ("some", 4), ("some x: some y: ", 16),
    ("(some x: x=y", 12), ("all x:", 6), ("all x", 5), ("all ", 4),
    # beginnings of words
    ("t", 1), ("tr", 2), ("tru", 3), ("f", 1), ("fa", 2), ("fal", 3), ("fals", 4),
    ("s", 1), ("so", 2), ("som", 3), ("a", 1), ("al", 2), ("all", 3),
    ("tr=x", 2), ("fa=x", 2), ("so=x", 2), ("al=x", 2), ("trx", 2), ("true=x", 4), ("false=x", 5),
    ("tx", 1), ("ta=x", 1), ("fr=x", 1), ("sx=x", 1), ("ao=x", 1), ("sa", 1), ("as", 1), ("to", 1),
    ("t rue", 2), ("tr ue", 2), ("tru e", 3), ("f alse", 2), ("fa lse", 2), ("s ome x: x=y", 2), ("a ll x: x=y", 2),
    ("so me x: x=y", 2), ("som e x: x=y", 3), ("al l x: x=y", 2), ("fals e", 4),
    ("truex", 4), ("true1", 4), ("truetrue", 4), ("true true", 5), ("falsee", 5), ("true(", 4), ("true~", 4),
    ("True", 1), ("FALSE", 1), ("Some x: x=y", 1), ("tRue", 1), ("somE x: x=y", 3),
    ("somex: x=y", 4), ("some(x): x=y", 4), ("some:x=y", 4), ("allx: x=y", 3), ("some1 x: x=y", 4), ("some~x=y", 4),
    ("some true: x=y", 6), ("some so: x=y", 6), ("all al: x=y", 5), ("some some x: x=y", 6),
    ("x=true", 3), ("x=fa", 3), ("x=some", 3), ("x=al", 3), ("R(true)", 3), ("R(so)", 3), ("R(x,al)", 5),
    # & and | on one level
    ("x=y | R(x) & x=y", 11), ("x=y & R(x) | x=y", 11), ("x=y&R(x)&x=y|x=y", 12),
    ("(x=y & R(x) | x=y)", 12), ("some x: x=y | R(x) & x=y", 19), ("(x=y | R(x)) & x=y | x=y", 19),
    ("~x=y | ~R(x) & x=y", 13), ("x=y & (x=y | x=y) | x=y", 18), ("(some x: x=y) | x=y & x=y", 20),
    ("((x=y)|(x=y)&(x=y))", 12),
    # some and all where they cannot stand
    ("~some x: x=y", 2), ("~all x: x=y", 2), ("~ some x: x=y", 3), ("~~all x: x=y", 3), ("~so", 2), ("~al", 2),
    ("x=y & some x: x=y", 7), ("x=y | all x: x=y", 7), ("x=y&some x:x=y", 5), ("(x=y) | ~all x: x=y", 10),
    ("(x=y & some x: x=y)", 8), ("some x: ~some y: x=y", 10), ("x=y & x=y & al", 13), ("x=y some x: x=y", 4),
    ("(x=y) all x: x=y", 6), ("some x: x=y some x: x=y", 12), ("some x: x=y & all y: x=y", 15),
    ("~s", 2), ("~a", 2), ("~tr", 3), ("x=y & fal", 9), ("~tx", 2), ("x=y | trx", 8),
    # signs left out
    ("xy", 1), ("x y", 2), ("=y", 0), ("x=y R(x)", 4), ("x=yR(x)", 3), ("Rx)", 1), ("R(x", 3), ("R()", 2), ("R( )", 3),
    ("E(xy)", 3), ("E(x y)", 4), ("E(,y)", 2), ("E(x,)", 4), ("x=y)", 3), ("& x=y", 0), ("| x=y", 0), ("()", 1),
    ("some x x=y", 7), ("some : x=y", 5), ("some x: )", 8), ("(some x: )", 9), (": x=y", 0), ("1=x", 0), ("x=1", 2),
    ("all: x=y", 3), ("x= & x=y", 3), ("x=y & & x=y", 6), ("~ & x=y", 2), ("(x=y) (x=y)", 6), ("(x)=y", 2), ("(x", 2),
    # signs put in
    ("x==y", 2), ("x=y=x", 3), ("x12=y", 2), ("x=y12", 4), ("x 1=y", 2), ("x=y 1", 4), ("x=~y", 2), ("x=(y)", 2),
    ("x~=y", 1), ("R~(x)", 1), ("R(~x)", 2), ("R((x))", 2), ("R(x))", 4), ("E(x,,y)", 4), ("EE(x)", 1), ("E1(x)", 1),
    ("E(x1 2)", 5), ("E(X)", 2), ("E(1)", 2), ("E(x)=y", 4), ("x=E(x)", 2), ("x=y)", 3), ("(x=y))", 5), (")x=y", 0),
    ("x=y & x=y)", 9), ("x=y &| x=y", 5), ("x=y && x=y", 5), ("x=y ~ x=y", 4), ("x=y~", 3), ("x=y(", 3), ("x=y:", 3),
    ("some x,y: x=y", 6), ("some x:: x=y", 7), ("some (x): x=y", 5), ("some ~x: x=y", 5), ("some X: x=y", 5),
    ("some x12: x=y", 7), ("some x 1: x=y", 7), ("some 1: x=y", 5), ("some x=y: x=y", 6), ("all x: : x=y", 7),
    # a third name
    ("E(x,y,z)", 5), ("E(x,y,", 5), ("E(x,y,)", 5), ("E ( x , y1 , z )", 11), ("~E(x,y ,z)", 7), ("(R(x,x,x))", 6),
    ("E(x,y) & E(x,y,z)", 14), ("( E  (v1,s)  &  E (y  , a)  )  |  (some v0 :E (z,v1, ) &E(z", 51),
    # signs exchanged, and signs of no text at all
    ("x:y", 1), ("x,y", 1), ("R[x]", 1), ("R(x]", 3), ("E(x;y)", 3), ("E(x:y)", 3), ("E(x=y)", 3), ("x-y", 1),
    ("!x=y", 0), ("x=y * x=y", 4), ("some x. x=y", 6), ("some x= x=y", 6), ("\tx=y", 0), ("x=y\n", 3), ("x\n=y", 1),
    ("some\tx: x=y", 4), ("some\nx: x=y", 4), ("x=\u00e9", 2), ("\u00c9(x)", 0), ("x\u00b2=y", 1), ("x\u0661=y", 1),
    ("x=y\u00a0", 3), ("\u03b1=\u03b1", 0), ("x_=y", 1), ("X=y", 1), ("x=Y", 2), ("x{=y", 1), ("x`=y", 1), ("@(x)", 0),
    ("[(x)", 0), ("x/=y", 1),
)

SIGNS = " xtrsoemalf1~&|()=,:EX+"


def place_told(text):
    """The place of the fault that read tells, None if it reads the text."""
    try:
        read(text)
    except TextFault as fault:
        return fault.place
    return None


def spaced(text, spaces):
    """The text with spaces of the given widths, in turn, ahead of each of its words and signs, and behind it."""
    words = re.findall("some|all|true|false|[a-z][0-9]?|[^ ]", text)
    done = ""
    for at, word in enumerate(words):
        width = spaces[at % len(spaces)]
        if at > 0 and words[at - 1] in ("some", "all"):
            width = max(width, 1)
        done = done + " " * width + word
    return done + " " * spaces[0]


class Written(unittest.TestCase):
    def test_table(self):
        for formula, text in WRITTEN:
            with self.subTest(formula=formula):
                self.assertEqual(write(formula), text)

    def test_as_a_plain_walk_writes(self):
        for formula in formulas():
            self.assertEqual(write(formula), plain.plain_text(plain.collapsed(formula)))

    def test_what_is_handed_in_stays(self):
        for formula, again in zip(formulas(), formulas()):
            write(formula)
            self.assertEqual(formula, again)


class Read(unittest.TestCase):
    def test_table(self):
        for text, formula in READ:
            with self.subTest(text=text):
                self.assertEqual(read(text), formula)

    def test_what_is_written_is_read_back(self):
        for formula in formulas():
            self.assertEqual(read(write(formula)), plain.collapsed(formula))

    def test_other_spaces(self):
        for formula in formulas():
            text = write(formula)
            for spaces in ((0,), (1,), (2,), (0, 1, 3), (1, 0)):
                self.assertEqual(read(spaced(text, spaces)), plain.collapsed(formula))

    def test_needless_parentheses(self):
        for formula in formulas():
            text = plain.crowded_text(plain.collapsed(formula))
            for worn in (text, "(" + text + ")", spaced(text, (1, 2))):
                self.assertEqual(read(worn), plain.collapsed(formula))

    def test_hundred_parentheses_and_more(self):
        for many in (1, 100, 130, 900):
            self.assertEqual(read("(" * many + "x=y" + ")" * many), A)
            self.assertEqual(place_told("(" * many + "x=y" + ")" * (many - 1)), 2 * many + 2)
            self.assertEqual(place_told("(" * many + "x=y" + ")" * (many + 1)), 2 * many + 3)
            text = "~(x=y & " * many + "true" + ")" * many
            self.assertEqual(write(read(text)), text)
            self.assertEqual(place_told("(" * many), many)

    def test_any_rank(self):
        for text in ("~" * 3000 + "x=y", "some x: all y: " * 1500 + "x=y & R(x)"):
            self.assertEqual(write(read(text)), text)

    def test_kinds_of_what_is_read(self):
        for formula in formulas():
            for part in plain.everything(read(write(formula))):
                self.assertIs(type(part), tuple)
                if part[0] in ("and", "or"):
                    self.assertIs(type(part[1]), tuple)
                if part[0] == "rel":
                    self.assertIs(type(part[2]), tuple)


class Faults(unittest.TestCase):
    def check(self, text):
        self.assertEqual(place_told(text), plain.fault_place(text), text)

    def test_table(self):
        for text, place in FAULTS:
            with self.subTest(text=text):
                self.assertEqual(place_told(text), place)
                self.assertEqual(plain.fault_place(text), place)

    def test_what_is_raised(self):
        for kind in (TextFault, StructureFault, ValueError):
            with self.assertRaises(kind) as caught:
                read("x=y &")
            self.assertIs(type(caught.exception), TextFault)
            self.assertIs(type(caught.exception.place), int)
            self.assertEqual(caught.exception.place, 5)

    def test_the_second_way_takes_the_texts_that_are_some(self):
        for text, _ in READ:
            self.assertIsNone(plain.fault_place(text), text)
        for formula in formulas():
            self.assertIsNone(plain.fault_place(write(formula)))

    def texts(self):
        """Texts of a good many formulas, with few, many and no needless signs."""
        found = [text for _, text in WRITTEN] + [text for text, _ in READ]
        for at, formula in enumerate(formulas()[4::11]):
            text = write(formula)
            crowded = plain.crowded_text(plain.collapsed(formula))
            found.append((text, spaced(text, (0, 1, 2)), spaced(text, (0,)), crowded)[at % 4])
        return [text for text in found if len(text) <= 80]

    def test_texts_cut_short(self):
        for formula in formulas():
            text = write(formula)
            for place in range(len(text)):
                self.check(text[:place])

    def test_texts_with_one_sign_left_out_or_two_exchanged(self):
        for text in self.texts():
            for place in range(len(text)):
                self.check(text[:place] + text[place + 1:])
                self.check(text[:place] + text[place:place + 2][::-1] + text[place + 2:])

    def test_texts_with_one_sign_put_in_or_changed(self):
        for text in self.texts():
            for place in range(len(text) + 1):
                for sign in SIGNS:
                    self.check(text[:place] + sign + text[place:])
                    self.check(text[:place] + sign + text[place + 1:])

    def test_all_that_begins_as_a_text_does(self):
        ahead = ("~", "(", "x=y", "x=y &", "x=y |", "(x=y", "(x=y |", "some x", "all x:", "E", "E(x", "x=", "~(", "tru")
        for text in ("", *ahead):
            self.check_all_behind(text, 4 if text == "" else 3)

    def check_all_behind(self, text, many):
        """Check all texts that begin with this one and have at most so many signs more."""
        self.check(text)
        if many == 0 or plain.fault_place(text) not in (None, len(text)):
            return
        for sign in SIGNS:
            self.check_all_behind(text + sign, many - 1)
