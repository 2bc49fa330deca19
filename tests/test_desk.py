"""Point 32: the desk."""

import copy
import inspect
import unittest

from tests.advisors import Told, told_by
from tests.things import LONG_TEXT, odd_things
from whatindex.advisor import Advisor
from whatindex.desk import Desk
from whatindex.errors import Made, NoItem, NoSaying, NoStore, NoTable, NoText, NotMade, Taken, TooMany
from whatindex.shapes import Shape
from whatindex.texts import show_ask, show_conditions, show_design, show_form, show_row

SHAPE = Shape(rows=2, entries=2, fan=2, buckets=1, bits=4)
TABLES = ["table t a:number,b:word heap -", "table u a:number,b:word sorted a"]
ROWS = ["put t 1,x", "put t 2,x", "put t 3,y"]

GOOD = [
    "table w a:number hashed a", "put t 1,x", "drop t a=1", "set t - b z", "make t hash:b", "unmake t tree:a",
    "watch t 5 ask a - - -", "watch t 5 put 1,x", "watch t 5 drop -", "watch t 5 set - a 1", "unwatch 1", "answer t a - - -",
    "ways t a - - -", "cost 1", "made", "touched", "spent", "advise 9", "steps 99", "steps 99 t:hash:a",
]


def told(*rows, shape=SHAPE):
    """A desk that was told rows, and what it answered to the last one."""
    desk = Desk(shape)
    answer = None
    for row in rows:
        answer = desk.say(row)
    return desk, answer


def full():
    return told(*TABLES, *ROWS, "make t tree:a", "watch t 5 ask b a=2 - -")[0]


class DeskTest(unittest.TestCase):
    def says(self, desk, row, wanted):
        answer = desk.say(row)
        self.assertIs(type(answer), str)
        self.assertEqual(answer, wanted, row)

    def refused(self, desk, error, row):
        """The refusal, which is of just this sort and changes nothing."""
        ahead, twin = told_by(desk.advisor), copy.deepcopy(desk.advisor)
        with self.assertRaises(error, msg=row) as caught:
            desk.say(row)
        self.assertIs(type(caught.exception), error, row)
        self.assertEqual(told_by(desk.advisor), ahead)
        self.assertTrue(desk.advisor == twin)
        return caught.exception


class RowTest(DeskTest):
    """Each row and its answer."""

    def test_tables(self):
        desk = Desk()
        self.says(desk, "table t a:number,b:word heap -", "ok")
        self.says(desk, "table abcdefgh a:word sorted a", "ok")
        self.says(desk, "table u a:word,b:number,c:word hashed c+a+b", "ok")
        store = desk.advisor.store_of("u")
        self.assertEqual((store.kind, store.key), ("hashed", ("c", "a", "b")))
        self.assertEqual(store.form, (("a", "word"), ("b", "number"), ("c", "word")))
        self.assertEqual(desk.advisor.store_of("t").key, ())

    def test_edits(self):
        desk = Desk(SHAPE)
        for row in TABLES:
            self.says(desk, row, "ok")
        for number, row in enumerate(ROWS, 1):
            self.says(desk, row, str(number))
        self.says(desk, "put u -5,q", "1")
        self.says(desk, "answer t a+b - - -", "1,x 2,x 3,y")
        self.says(desk, "set t a=2..,b=x b zz", "1")
        self.says(desk, "set t a=9 b zz", "0")
        self.says(desk, "set t - b x", "2")
        self.says(desk, "set t - a -7", "3")
        self.says(desk, "answer t b+a - - 2", "x,-7 x,-7")
        self.says(desk, "drop t a=3", "0")
        self.says(desk, "drop t -", "3")
        self.says(desk, "answer t a - - -", "-")
        self.says(desk, "answer u a - - -", "-5")
        self.says(desk, "put t 1,x", "4")

    def test_making(self):
        desk = told(*TABLES, *ROWS)[0]
        self.says(desk, "made", "-")
        self.says(desk, "make t tree:b+a", "ok")
        self.says(desk, "make u hash:a", "ok")
        self.says(desk, "make t bits:a", "ok")
        self.says(desk, "made", "t:bits:a t:tree:b+a u:hash:a")
        self.says(desk, "unmake t bits:a", "ok")
        self.says(desk, "made", "t:tree:b+a u:hash:a")

    def test_watching(self):
        desk = told(*TABLES, *ROWS)[0]
        self.says(desk, "touched", "-")
        self.says(desk, "watch t 1 ask b a=2 - -", "1")
        self.says(desk, "touched", "1")
        self.says(desk, "watch t 100 put 1,x", "2")
        self.says(desk, "watch t 7 drop b=x", "3")
        self.says(desk, "watch u 10 set a=1..,b=..c b q", "4")
        wanted = {
            1: ("t", ("ask", (("b",), (("a", "is", 2),), (), None)), 1), 2: ("t", ("put", (1, "x")), 100),
            3: ("t", ("drop", (("b", "is", "x"),)), 7),
            4: ("u", ("set", (("a", "from", 1, None), ("b", "from", None, "c")), "b", "q"), 10),
        }
        self.assertEqual(desk.advisor.watched, wanted)
        self.says(desk, "cost 1", "2 0 0")
        self.says(desk, "cost 2", "0 2 0")
        self.says(desk, "cost 3", "2 4 0")
        self.says(desk, "make t tree:a", "ok")
        self.says(desk, "make t bits:b", "ok")
        # The tree parts a leaf with 4, the bits are read and written.
        self.says(desk, "cost 2", "0 2 6")
        self.says(desk, "touched", "2 3")
        self.says(desk, "unwatch 2", "ok")
        self.says(desk, "touched", "-")
        self.assertEqual(len(desk.advisor), 3)

    def test_answers_and_ways(self):
        desk = told(*TABLES, *ROWS, "make t tree:a", "make t bits:b")[0]
        self.says(desk, "answer t b+a a=2.. b+a -", "x,2 y,3")
        self.says(desk, "answer t a b=q - -", "-")
        # walk; bits, 1 and 1; the tree, 1 and 1 and 1; both, 2 and 1 and 1
        self.says(desk, "ways t b a=2,b=x - -", "2 2 3 4")
        self.says(desk, "ways u a - - -", "0 0")
        self.assertEqual(told("table t a:word heap -", "ways t a - - -")[1], "0")

    def test_spent(self):
        desk = told(*TABLES, *ROWS)[0]
        # A new page, one more into it, a new one.
        self.says(desk, "spent", "0 4 0")
        desk.say("answer t a - - -")
        self.says(desk, "spent", "2 4 0")
        desk.say("make t tree:a")
        self.says(desk, "spent", "2 4 5")
        desk.say("drop t a=9")
        self.says(desk, "spent", "2 6 5")

    def test_advice(self):
        desk = told(*TABLES, *[f"put t {number},x" for number in range(30)], "watch t 10 ask b a=2 - -")[0]
        self.says(desk, "advise 0", "150 -")
        self.says(desk, "advise 29", "150 -")
        # The bits of each value have a page; by those of one it is this and a page of the store.
        self.says(desk, "advise 30", "20 t:bits:a")
        self.says(desk, "advise 99999999", "20 t:bits:a")
        self.assertEqual(told("advise 0")[1], "0 -")

    def test_advice_of_several(self):
        rows = [f"put {table} {number},x" for table in "tu" for number in range(30)]
        desk = told(*TABLES[:1], "table u a:number,b:word heap -", *rows)[0]
        desk.say("watch t 10 ask b a=2 - -")
        desk.say("watch u 10 ask b a=2 - -")
        self.says(desk, "advise 60", "40 t:bits:a u:bits:a")

    def test_steps(self):
        desk = told(*TABLES, *[f"put t {number},x" for number in range(20)], "make t tree:a+b", "watch t 1 ask b a=2 - -")[0]
        self.says(desk, "steps 99 t:tree:a+b", "-")
        self.says(desk, "steps 99", "drop t:tree:a+b")
        self.says(desk, "steps 42 t:tree:a", "make t:tree:a; drop t:tree:a+b")
        self.says(desk, "steps 41 t:tree:a", "none")
        self.says(desk, "steps 0", "none")
        self.says(desk, "steps 42 t:tree:a t:tree:a+b", "make t:tree:a")
        self.says(desk, "steps 42 t:tree:a+b u:tree:b t:tree:a", "make t:tree:a; make u:tree:b")
        desk.say("unmake t tree:a+b")
        self.says(desk, "steps 0", "-")
        self.assertEqual(told("steps 0")[1], "-")

    def test_steps_with_ten_designs(self):
        desk = told("table t a:number,b:number,c:number,d:number,e:number,f:number heap -")[0]
        ten = [f"t:tree:{column}" for column in "abcdef"] + [f"t:hash:{column}" for column in "abcd"]
        answer = desk.say("steps 5 " + " ".join(ten))
        self.assertEqual(sorted(answer.split("; ")), sorted(f"make {each}" for each in ten))
        self.refused(desk, NoSaying, "steps 5 " + " ".join(ten + ["t:bits:a"]))


class NoSayingTest(DeskTest):
    def test_no_text(self):
        desk = full()
        for thing in odd_things() + [None, 5, b"made", ["made"], ("made",)]:
            self.refused(desk, NoSaying, thing)

    def test_another_word(self):
        desk = full()
        for row in GOOD:
            word, *rest = row.split(" ")
            for other in ("", word + "s", word.upper(), word[:-1], "-", word + ":"):
                self.refused(desk, NoSaying, " ".join([other] + rest))
        for row in ("", " ", "  ", "change t - a 1", "route 5", "candidates", "len", "ok", LONG_TEXT):
            self.refused(desk, NoSaying, row)

    def test_another_count_of_words(self):
        desk = full()
        for row in GOOD:
            words = row.split(" ")
            if words[0] != "steps":
                self.refused(desk, NoSaying, row + " a")
                self.refused(desk, NoSaying, row + " ")
                self.refused(desk, NoSaying, " " + row)
                self.refused(desk, NoSaying, row.replace(" ", "  ", 1) if " " in row else row + " ")
                if len(words) > 1:
                    self.refused(desk, NoSaying, " ".join(words[:-1]))
        for row in ("steps", "watch", "watch t", "watch t 5", "watch t 5 ask", "watch t 5 ask a - -", "watch t 5 put"):
            self.refused(desk, NoSaying, row)
        for row in ("watch t 5 ", "watch t 5 get", "watch t 5 5", "watch t 5 -", "watch t 5 made"):
            self.refused(desk, NoSaying, row)

    def test_an_item_of_another_word(self):
        desk = full()
        for word in ("", "get", "Ask", "change", "asks", "5"):
            for rest in ("a - - -", "1,x", "-", "- a 1"):
                self.refused(desk, NoSaying, f"watch t 5 {word} {rest}")
        self.refused(desk, NoSaying, "watch t 5 ask -")
        self.refused(desk, NoSaying, "watch t 5 set -")
        self.refused(desk, NoSaying, "watch t 5 put 1,x a 1")
        self.refused(desk, NoSaying, "watch t 5 drop - a 1")

    def test_numbers(self):
        desk = full()
        wrong = ["", "-", "-1", "+1", "00", "01", "007", "1.0", "1e1", "a", "123456789", "000000001", "0x1", "1_0", "1,1", "\u0661", "~"]
        for number in wrong:
            for row in (f"unwatch {number}", f"cost {number}", f"advise {number}", f"steps {number}", f"steps {number} t:tree:a"):
                self.refused(desk, NoSaying, row)
        for weight in wrong + ["0", "101", "1000", "99999999"]:
            self.refused(desk, NoSaying, f"watch t {weight} put 1,x")
        for number in ("0", "2", "10", "99999999"):
            self.assertEqual(self.refused(desk, NoItem, f"unwatch {number}").number, int(number))
            self.assertEqual(self.refused(desk, NoItem, f"cost {number}").number, int(number))
        for room in ("0", "1", "10", "99999999"):
            self.assertEqual(desk.say(f"advise {room}")[:1].isdigit(), True)
            desk.say(f"steps {room}")
        self.assertEqual(desk.say("watch t 1 put 1,x"), "2")
        self.assertEqual(desk.say("watch t 100 put 1,x"), "3")

    def test_a_name_of_a_table_that_is_none(self):
        desk = full()
        for name in ("", "T", "abcdefghi", "a1", "5", "a-b", "a:b"):
            self.refused(desk, NoSaying, f"table {name} a:number heap -")

    def test_ahead_of_all_else(self):
        desk = full()
        for row in (
            "put zz", "put zz ? ?", "watch zz 0 put ?", "watch zz 101 ask ? ? ? ?", "watch zz 5 get ?", "steps -1 zz:?", "table T ? ? ?",
            "answer zz ?", "steps 5 zz " + " ".join(["zz"] * 10), "set zz ? ?", "make zz", "unmake zz ? ?", "ways zz ? ? ?",
        ):
            self.refused(desk, NoSaying, row)


class NoTableTest(DeskTest):
    def test_a_table_that_is_none(self):
        desk = full()
        for name in ("zz", "", "T", "tt", "-", "5", "t:", "abcdefghi"):
            for row in (
                "put {} 1,x", "drop {} -", "set {} - a 1", "make {} tree:a", "unmake {} tree:a", "watch {} 5 put 1,x",
                "watch {} 5 ask a - - -", "answer {} a - - -", "ways {} a - - -",
                # With all else that can't be read.
                "put {} ?", "drop {} ?", "set {} ? ? ?", "make {} ?", "unmake {} ?", "watch {} 5 put ?",
                "watch {} 5 ask ? ? ? ?", "watch {} 5 set ? ? ?", "answer {} ? ? ? ?", "ways {} ? ? ? ?",
            ):
                self.assertEqual(self.refused(desk, NoTable, row.format(name)).name, name)

    def test_two_blanks_make_an_empty_word(self):
        desk = full()
        self.assertEqual(self.refused(desk, NoTable, "put  1,x").name, "")
        self.refused(desk, NoText, "put t ")
        self.refused(desk, NoText, "answer t a - - ")
        self.refused(desk, NoText, "answer t  - - -")
        self.assertEqual(self.refused(desk, NoTable, "steps 5 ").name, "")
        self.assertEqual(self.refused(desk, NoTable, "steps 5  t:tree:a").name, "")

    def test_of_steps(self):
        desk = full()
        for word, name in (
            ("zz:tree:a", "zz"), ("zz:?", "zz"), ("zz:", "zz"), ("zz", "zz"), (":tree:a", ""), ("", ""), (":", ""), ("tree", "tree"),
            ("zz:t:tree:a", "zz"), ("tree:a", "tree"),
        ):
            self.assertEqual(self.refused(desk, NoTable, f"steps 9 {word}").name, name)
            self.assertEqual(self.refused(desk, NoTable, f"steps 9 t:tree:a {word}").name, name)
            self.assertEqual(self.refused(desk, NoTable, f"steps 9 t:tree:a {word} yy").name, name)

    def test_steps_go_word_by_word(self):
        desk = full()
        self.refused(desk, NoText, "steps 9 t:tree:c zz:tree:a")
        self.assertEqual(self.refused(desk, NoTable, "steps 9 zz:tree:a t:tree:c").name, "zz")
        self.refused(desk, NoText, "steps 9 t zz")


class NoTextTest(DeskTest):
    def test_a_text_that_cannot_be_read(self):
        desk = full()
        for row in (
            "table v ? heap -", "table v a heap -", "table v a:words heap -", "table v  heap -", "table v - heap -",
            "put t ?", "put t 1", "put t 1,x,1", "put t x,1", "put t 01,x", "put t -0,x", "put t ",
            "drop t ?", "drop t a", "drop t a=x", "drop t c=1", "drop t a=..", "drop t ",
            "set t ? a 1", "set t a=x a 1", "set t - a x", "set t - b 1", "set t - a ", "set t - a 1000", "set t  a 1",
            "make t ?", "make t tree", "make t tree:c", "make t trees:a", "make t ", "make t bits:a+b",
            "unmake t ?", "unmake t tree:c", "watch t 5 put ?", "watch t 5 ask ? - - -", "watch t 5 ask a ? - -",
            "watch t 5 ask a - ? -", "watch t 5 ask a - - ?", "watch t 5 ask a - - 21", "watch t 5 drop ?", "watch t 5 set ? a 1",
            "watch t 5 set - c 1", "watch t 5 set - a x", "answer t ? - - -", "answer t a - - 0", "ways t a b - -", "ways t a - a+a -",
            "steps 5 t", "steps 5 t:", "steps 5 t:tree", "steps 5 t:tree:c", "steps 5 t:tree:a:b", "steps 5 t::a", "steps 5 t:tree:a t",
        ):
            self.refused(desk, NoText, row)

    def test_a_column_that_is_none(self):
        desk = full()
        for column in ("c", "", "A", "a+b", "-", "5", "ab"):
            for value in ("1", "x", "?", ""):
                self.refused(desk, NoText, f"set t - {column} {value}")
                self.refused(desk, NoText, f"watch t 5 set - {column} {value}")

    def test_ahead_of_what_the_functions_refuse(self):
        desk = full()
        # The name is taken, there are four tables, sixty rows, ten designs, twelve items.
        desk.say("table v a:number heap -")
        desk.say("table w a:number heap -")
        for row in ("table t ? heap -", "table z ? ? ?", "table z ? heap a"):
            self.refused(desk, NoText, row)
        for _ in range(57):
            desk.say("put t 1,x")
        self.refused(desk, TooMany, "put t 1,x")
        self.refused(desk, NoText, "put t 1,1")
        for _ in range(11):
            desk.say("watch t 5 drop -")
        self.refused(desk, TooMany, "watch t 5 drop -")
        self.refused(desk, NoText, "watch t 5 drop ?")


class FunctionsTest(DeskTest):
    """What the functions refuse."""

    def test_tables(self):
        desk = full()
        self.refused(desk, Taken, "table t a:number heap -")
        self.refused(desk, Taken, "table t a:number ? ?")
        for kind in ("?", "", "Heap", "tree", "-"):
            self.assertEqual(self.refused(desk, NoStore, f"table v a:number {kind} -").part, "kind")
            self.assertEqual(self.refused(desk, NoStore, f"table v a:number {kind} ?").part, "kind")
        for kind, key in (
            ("heap", "a"), ("heap", ""), ("sorted", "-"), ("hashed", "-"), ("sorted", ""), ("sorted", "c"), ("sorted", "a+a"),
            ("sorted", "a+"), ("hashed", "a++b"), ("sorted", "a,b"), ("sorted", "-+a"), ("hashed", "?"), ("heap", "--"),
        ):
            self.assertEqual(self.refused(desk, NoStore, f"table v a:number,b:word {kind} {key}").part, "key", key)
        desk.say("table v a:number heap -")
        desk.say("table w a:number heap -")
        self.refused(desk, TooMany, "table z a:number heap -")

    def test_designs(self):
        desk = full()
        self.refused(desk, Made, "make t tree:a")
        self.refused(desk, NotMade, "unmake t tree:b")
        self.refused(desk, NotMade, "unmake u tree:a")
        nine = ["make t tree:b", "make t tree:a+b", "make t tree:b+a", "make t hash:a", "make t hash:b", "make t hash:a+b",
                "make t bits:a", "make t bits:b", "make u bits:b"]
        for row in nine:
            self.assertEqual(desk.say(row), "ok")
        self.refused(desk, TooMany, "make u tree:a")
        self.refused(desk, Made, "make u bits:b")
        self.refused(desk, TooMany, "steps 5 u:tree:a")
        self.refused(desk, NoText, "steps 5 u:tree:a u:tree:c")
        self.refused(desk, NoTable, "steps 5 u:tree:a v:tree:c")

    def test_items(self):
        desk = full()
        self.assertEqual(self.refused(desk, NoItem, "unwatch 7").number, 7)
        self.assertEqual(self.refused(desk, NoItem, "cost 0").number, 0)


class WholeTest(DeskTest):
    """A desk and an advisor that are told the same tell the same."""

    def row_of(self, deed, things, more):
        """The row by which a desk is told a deed of an advisor."""
        if deed == "table":
            name, form, kind = things
            return f"table {name} {show_form(form)} {kind} {'+'.join(more['key']) or '-'}"
        if deed == "unwatch":
            return f"unwatch {things[0]}"
        table, *rest = things
        if deed == "put":
            return f"put {table} {show_row(rest[0])}"
        if deed == "drop":
            return f"drop {table} {show_conditions(rest[0])}"
        if deed == "change":
            return f"set {table} {show_conditions(rest[0])} {rest[1]} {rest[2]}"
        if deed in ("make", "unmake"):
            return f"{deed} {table} {show_design(rest[0])}"
        if deed == "answer":
            return f"answer {table} {show_ask(rest[0])}"
        word, thing, *column = rest[0]
        shown = {"ask": show_ask, "put": show_row, "drop": show_conditions, "set": show_conditions}[word](thing)
        return " ".join(["watch", table, str(more["weight"]), word, shown] + [str(each) for each in column])

    def answer_of(self, answer):
        if answer is None:
            return "ok"
        if isinstance(answer, list):
            return " ".join(show_row(row) for row in answer) or "-"
        return str(answer)

    def named(self, designs):
        return " ".join(f"{table}:{show_design(design)}" for table, *design in designs) or "-"

    def compare(self, desk, advisor, both):
        self.says(desk, "made", self.named(advisor.made()))
        self.says(desk, "touched", " ".join(map(str, advisor.touched())) or "-")
        self.says(desk, "spent", " ".join(map(str, advisor.spent())))
        for number in advisor.watched:
            finding, store, keeping = advisor.cost(number)
            self.says(desk, f"cost {number}", f"{finding} {store} {sum(keeping)}")
        for room in (0, 7, 1000):
            designs, least, _ = advisor.advise(room=room)
            self.says(desk, f"advise {room}", f"{least} {self.named(designs)}")
            goal = [each for each in both.some_designs(4) if each[0] in advisor.stores]
            word, steps = advisor.route(goal, room=room)
            wanted = "none"
            if word == "steps":
                wanted = "; ".join(f"{deed} {self.named([each])}" for deed, each in steps) or "-"
            self.says(desk, f"steps {room} {self.named(goal)}" if goal else f"steps {room}", wanted)
        table = both.chance.choice(sorted(advisor.stores))
        ask = both.worlds[table].ask()
        self.says(desk, f"ways {table} {show_ask(ask)}", " ".join(str(touched) for _, touched in advisor.ways(table, ask)))

    def test_told_the_same(self):
        for seed in range(25):
            both = Told(seed)
            while len(both.deeds) < 50:
                both.deed()
            desk, advisor = Desk(both.shape), Advisor(both.shape)
            for at, (deed, things, more) in enumerate(both.deeds):
                answer = getattr(advisor, deed)(*things, **more)
                self.says(desk, self.row_of(deed, things, more), self.answer_of(answer))
                if at % 7 == 0:
                    self.compare(desk, advisor, both)
            self.assertTrue(desk.advisor == advisor)

    def test_two_desks_share_nothing(self):
        one, other = full(), full()
        kept = told_by(other.advisor)
        for row in GOOD:
            if row not in ("unwatch 1",):
                one.say(row)
        self.assertEqual(told_by(other.advisor), kept)

    def test_the_interface(self):
        self.assertEqual(str(inspect.signature(Desk)), "(shape=None)")
        self.assertEqual(str(inspect.signature(vars(Desk)["say"])), "(self, row)")
        self.assertEqual(Desk(shape=Shape(rows=2)).say(row="made"), "-")
        self.assertEqual(told("table t a:number heap -", "put t 1", "put t 1", "put t 1", "ways t a - - -", shape=None)[1], "1")
        self.assertEqual(told("table t a:number heap -", "put t 1", "put t 1", "put t 1", "ways t a - - -")[1], "2")


if __name__ == "__main__":
    unittest.main()
