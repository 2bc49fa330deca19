"""Point 31: texts written and read."""

import copy
import inspect
import re
import unittest

from tests.things import odd_things
from tests.worlds import World
from whatindex import texts
from whatindex.errors import NoText
from whatindex.texts import read_ask, read_conditions, read_design, read_form, read_row
from whatindex.texts import show_ask, show_conditions, show_design, show_form, show_row

FORM = (("name", "word"), ("cents", "number"), ("n", "number"))

ROWS = {
    ("pear", 45, 0): "pear,45,0",
    ("a", -999, 999): "a,-999,999",
    ("abcdefgh", -1, 10): "abcdefgh,-1,10",
}
FORMS = {
    (("a", "word"),): "a:word",
    FORM: "name:word,cents:number,n:number",
    (("word", "number"), ("number", "word")): "word:number,number:word",
    tuple((name, "number") for name in "abcdef"): "a:number,b:number,c:number,d:number,e:number,f:number",
}
DESIGNS = {
    ("tree", ("cents",)): "tree:cents",
    ("tree", ("n", "name", "cents")): "tree:n+name+cents",
    ("hash", ("name", "n")): "hash:name+n",
    ("bits", ("n",)): "bits:n",
}
CONDITIONS = {
    (): "-",
    (("name", "is", "pear"),): "name=pear",
    (("cents", "is", 0),): "cents=0",
    (("cents", "is", -45),): "cents=-45",
    (("cents", "from", 1, 9),): "cents=1..9",
    (("cents", "from", -9, -1),): "cents=-9..-1",
    (("cents", "from", 9, 1),): "cents=9..1",
    (("cents", "from", None, 9),): "cents=..9",
    (("cents", "from", 9, None),): "cents=9..",
    (("name", "from", "a", None), ("n", "is", 3), ("cents", "from", None, -7)): "name=a..,n=3,cents=..-7",
    (("name", "from", "fig", "pear"),): "name=fig..pear",
}
ASKS = {
    (("name",), (), (), None): "name - - -",
    (("name", "n"), (("cents", "is", 5),), ("n", "cents"), 20): "name+n cents=5 n+cents 20",
    (("n",), (("name", "from", "a", None), ("n", "is", -3)), ("name",), None): "n name=a..,n=-3 name -",
    (("cents",), (), (), 1): "cents - - 1",
}


class ShowTest(unittest.TestCase):
    def test_rows(self):
        for row, text in ROWS.items():
            self.assertEqual(show_row(row), text)
        self.assertEqual(show_row((7,)), "7")
        self.assertEqual(show_row(("a", "b", "c", 0, -1, 2)), "a,b,c,0,-1,2")

    def test_forms(self):
        for form, text in FORMS.items():
            self.assertEqual(show_form(form), text)

    def test_designs(self):
        for design, text in DESIGNS.items():
            self.assertEqual(show_design(design), text)

    def test_conditions(self):
        for conditions, text in CONDITIONS.items():
            self.assertEqual(show_conditions(conditions), text)

    def test_asks(self):
        for ask, text in ASKS.items():
            self.assertEqual(show_ask(ask), text)

    def test_parameters(self):
        for word in ("row", "form", "design", "conditions", "ask"):
            self.assertEqual(list(inspect.signature(getattr(texts, f"show_{word}")).parameters), [word])
            wanted = ["text"] if word == "form" else ["form", "text"]
            self.assertEqual(list(inspect.signature(getattr(texts, f"read_{word}")).parameters), wanted)
        self.assertEqual(read_row(text="a,1,2", form=FORM), ("a", 1, 2))
        self.assertEqual(read_form(text="a:word"), (("a", "word"),))
        self.assertEqual(read_ask(text="n - - -", form=FORM), (("n",), (), (), None))


class ReadTest(unittest.TestCase):
    def same(self, told, wanted):
        """Equal, and of like kinds down to the innermost."""
        self.assertEqual(repr(told), repr(wanted))

    def refused(self, read, *things):
        for thing in things:
            kept = copy.deepcopy(thing)
            with self.assertRaises(NoText, msg=thing):
                read(thing) if read is read_form else read(FORM, thing)
            self.assertEqual(thing, kept)

    def test_what_is_written(self):
        for table, read in ((ROWS, read_row), (DESIGNS, read_design), (CONDITIONS, read_conditions), (ASKS, read_ask)):
            for thing, text in table.items():
                self.same(read(FORM, text), thing)
        for form, text in FORMS.items():
            self.same(read_form(text), form)

    def test_things_that_are_no_texts(self):
        for read in (read_row, read_form, read_design, read_conditions, read_ask):
            self.refused(read, *odd_things())
            self.refused(read, None, 0, 5, -5, True, ["a"], ("a",), [], (), b"-", b"pear,45,0", ["pear,45,0"], ("-",))
        self.refused(read_row, *ROWS)
        self.refused(read_form, *FORMS)
        self.refused(read_design, *DESIGNS)
        self.refused(read_conditions, *CONDITIONS)
        self.refused(read_ask, *ASKS)

    def test_rows(self):
        self.refused(
            read_row, "", "-", ",", ",,", "pear", "pear,45", "pear,45,0,", ",pear,45,0", "pear,45,0,0", "pear,,0",
            "pear,45,", ",45,0", "pear, 45,0", " pear,45,0", "pear,45,0 ", "pear;45;0", "45,pear,0", "pear,pear,0",
            "Pear,45,0", "pearpearp,45,0", "1,45,0", "pear,1000,0", "pear,-1000,0", "pear,99999999999,0", "pear 45 0",
        )

    def test_numbers(self):
        for text in (
            "", "-", "--1", "-0", "00", "01", "-01", "007", "+1", "1.", "1.0", "1e1", "1_0", " 1", "1 ", "0x1", "a", "1a",
            "- 1", "1-", "9999", "-9999", "1000", "0000000001", "000", "-00", "\u0661", "\u00b2", "1" * 1900,
        ):
            self.refused(read_row, f"pear,{text},0")
            self.refused(read_conditions, f"cents={text}", f"cents={text}..a", f"cents=a..{text}", f"cents=..{text}..")
            if text:
                self.refused(read_conditions, f"cents={text}..", f"cents=..{text}", f"cents={text}..5", f"cents=5..{text}")
            if text != "-":
                self.refused(read_ask, f"name - - {text}")
        for number in range(-999, 1000):
            self.same(read_row(FORM, f"a,{number},0"), ("a", number, 0))

    def test_forms(self):
        self.refused(
            read_form, "", "-", ",", ":", "a", "a:", ":word", "a:words", "a:Word", "A:word", "a:word,", ",a:word", "a:word:",
            ":a:word", "a:word,a:number", "a:word,,b:word", "a:word b:word", "a:word, b:word", " a:word", "a:word ", "a: word",
            "a::word", "a=word", "abcdefghi:word", "a1:word", "a:number:word", "a:word;b:word", "a:int",
            ",".join(f"{name}:word" for name in "abcdefg"),
        )

    def test_designs(self):
        self.refused(
            read_design, "", "-", ":", "tree", "tree:", ":n", "tree:-", "tree:+", "tree:n+", "tree:+n", "tree:n++cents", "tree:n,cents",
            "tree:n+n", "tree:m", "Tree:n", "trees:n", "bits:n+cents", "bits:", "hash:", "heap:n", "tree::n", "tree:n:", "tree:n:cents",
            "tree: n", " tree:n", "tree:n ", "tree n", "tree=n", "n:tree", "tree:name+cents+n+name",
        )
        wide = tuple((name, "number") for name in "abcdef")
        self.same(read_design(wide, "tree:f+e+d+c"), ("tree", ("f", "e", "d", "c")))
        self.same(read_design(wide, "hash:a+b+c"), ("hash", ("a", "b", "c")))
        for text in ("tree:a+b+c+d+e", "hash:a+b+c+d", "bits:a+b"):
            with self.assertRaises(NoText):
                read_design(wide, text)

    def test_conditions(self):
        self.refused(
            read_conditions, "", "--", "-,-", ",", "=", "name", "name=", "=pear", "=", "name==pear", "name=pear,", ",name=pear",
            "name=pear,,n=1", "name=pear n=1", "name=pear, n=1", " name=pear", "name=pear ", "name =pear", "name= pear",
            "name=pear,name=fig", "name=pear,name=fig..", "name=1", "n=pear", "m=1", "m=..", "name=..", "n=..", "n=1...2",
            "n=1.2", "n=1.", "n=.1", "n=1..2..3", "n=....", "n=1..pear", "name=a..1", "name=fig..Pear", "name:pear", "name-pear",
            "-,n=1", "n=1,-", "n=is", "n=from..", "n=None", "n=None..1", "n=1..None", "n=-..1", "n=1..-", "Name=pear",
        )
        six = tuple((name, "number") for name in "abcdef")
        text = ",".join(f"{name}=1" for name in "fedcba")
        self.same(read_conditions(six, text), tuple((name, "is", 1) for name in "fedcba"))
        with self.assertRaises(NoText):
            read_conditions(six, text + ",a=1")

    def test_asks(self):
        self.refused(
            read_ask, "", " ", "   ", "-", "- - - -", "name", "name - -", "name - - - -", "name  - - -", "name -  - -", " name - - -",
            "name - - - ", "name  - -", "name+ - - -", "+name - - -", "name+name - - -", "m - - -", "name,n - - -", "name - n+n -",
            "name - m -", "name - n+ -", "name - + -", "name - -- -", "name -- - -", "name - - --", "name - - 0", "name - - 21",
            "name - - -1", "name - - 01", "name - - 1.", "name - - none", "name - - None", "name n=pear - -", "name n= - -",
            "name - n,cents -", "name\t-\t-\t-", "name,-,-,-", "name = - -", "name   ", "Name - - -",
        )
        for first in range(1, 21):
            self.same(read_ask(FORM, f"name - - {first}"), (("name",), (), (), first))
        wide = tuple((name, "number") for name in "abcdef")
        self.same(read_ask(wide, "f+e+d+c+b+a - a+b+c+d -"), (tuple("fedcba"), (), tuple("abcd"), None))
        with self.assertRaises(NoText):
            read_ask(wide, "a - a+b+c+d+e -")


SIGNS = [chr(code) for code in range(32, 127) if chr(code) != "\x25"]


def near(text, chance):
    """A text that is unlike another one by one sign put in, left out or exchanged."""
    at = chance.randrange(len(text) + 1)
    sign = chance.choice(SIGNS if chance.random() < 0.3 else "-+,:=. 01a9")
    return chance.choice((text[:at] + sign + text[at:], text[:at] + text[at + 1:], text[:at] + sign + text[at + 1:]))


PATTERNS = {"number": "(0|-?[1-9][0-9]{0,2})", "word": "[a-z]{1,8}"}


def are_unlike(names, known, least, most):
    return all(name in known for name in names) and len(set(names)) == len(names) and least <= len(names) <= most


def is_row_text(form, text):
    return re.fullmatch(",".join(PATTERNS[kind] for _, kind in form), text) is not None


def is_form_text(form, text):
    if not re.fullmatch("[a-z]{1,8}:(number|word)(,[a-z]{1,8}:(number|word)){0,5}", text):
        return False
    names = re.findall("([a-z]+):", text)
    return len(set(names)) == len(names)


def is_design_text(form, text):
    if not re.fullmatch("(tree|hash|bits):[a-z+]+", text):
        return False
    kind, columns = text.split(":")
    return are_unlike(columns.split("+"), dict(form), 1, {"tree": 4, "hash": 3, "bits": 1}[kind])


def is_conditions_text(form, text):
    if text == "-":
        return True
    seen = []
    for part in text.split(","):
        column = part.split("=")[0]
        if column not in dict(form) or part == f"{column}=..":
            return False
        value = PATTERNS[dict(form)[column]]
        if not re.fullmatch(f"{column}=({value}|({value})?[.][.]({value})?)", part):
            return False
        seen.append(column)
    return len(set(seen)) == len(seen)


def is_ask_text(form, text):
    parts = text.split(" ")
    if len(parts) != 4:
        return False
    wants, conditions, order, first = parts
    if not are_unlike(wants.split("+"), dict(form), 1, 6) or not is_conditions_text(form, conditions):
        return False
    if order != "-" and not are_unlike(order.split("+"), dict(form), 1, 4):
        return False
    return re.fullmatch("-|[1-9]|1[0-9]|20", first) is not None


class WholeTest(unittest.TestCase):
    """What is written is read to the same, and nothing else is read."""

    def pairs(self, world):
        """For each sort of thing: a thing, how it is written, how it is read, and whether a text is of this sort."""
        form = world.form
        conditions = tuple(world.condition(column) for column in world.columns(0, 6))
        kind = world.chance.choice(("tree", "hash", "bits"))
        design = (kind, world.columns(1, {"tree": 4, "hash": 3, "bits": 1}[kind]))
        return [
            (world.row(), show_row, lambda text: read_row(form, text), is_row_text),
            (form, show_form, read_form, is_form_text),
            (design, show_design, lambda text: read_design(form, text), is_design_text),
            (conditions, show_conditions, lambda text: read_conditions(form, text), is_conditions_text),
            (world.ask(), show_ask, lambda text: read_ask(form, text), is_ask_text),
        ]

    def test_back_and_forth(self):
        counts = {True: 0, False: 0}
        for seed in range(150):
            world = World(seed)
            for thing, show, read, is_such in self.pairs(world):
                text = show(thing)
                self.assertIs(type(text), str)
                self.assertEqual(repr(read(text)), repr(thing))
                for _ in range(40):
                    other = near(text, world.chance)
                    counts[is_such(world.form, other)] += 1
                    if is_such(world.form, other):
                        self.assertEqual(show(read(other)), other)
                    else:
                        with self.assertRaises(NoText, msg=other):
                            read(other)
        self.assertGreater(counts[True], 500)
        self.assertGreater(counts[False], 5000)


if __name__ == "__main__":
    unittest.main()
