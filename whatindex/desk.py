"""The desk: an advisor that is told texts and answers by texts."""

from whatindex.advisor import Advisor
from whatindex.columns import kind_of
from whatindex.errors import NoSaying
from whatindex.texts import NONE, are_figures, read_ask, read_columns, read_conditions, read_design, read_form
from whatindex.texts import read_row, read_value, show_design, show_row
from whatindex.values import is_word

DONE = "ok"
MOST_FIGURES = 8
MOST_WEIGHT = 100
MOST_GOAL = 10
# How many words a row has by its first one, where that is all that counts.
COUNTS = {
    "table": 5, "put": 3, "drop": 3, "set": 5, "make": 3, "unmake": 3, "unwatch": 2, "answer": 6, "ways": 6,
    "cost": 2, "made": 1, "touched": 1, "spent": 1, "advise": 2,
}
# How many words an item has that is to be watched, by its first one.
ITEM_COUNTS = {"ask": 5, "put": 2, "drop": 2, "set": 4}
ITEM_AT = 3
# Where in a row a number stands, by its first word.
NUMBER_AT = {"unwatch": 1, "cost": 1, "advise": 1, "steps": 1, "watch": 2}


def has_count(words):
    """Whether a row has as many words as its first one asks for."""
    word, many = words[0], len(words)
    if word == "steps":
        return 2 <= many <= 2 + MOST_GOAL
    if word == "watch":
        return many > ITEM_AT and ITEM_COUNTS.get(words[ITEM_AT], 0) == many - ITEM_AT
    return COUNTS.get(word, 0) == many


def is_saying(words):
    """Whether words are a row by the first one, their count, and the name or number among them."""
    if not has_count(words):
        return False
    word = words[0]
    if word == "table":
        return is_word(words[1])
    if word not in NUMBER_AT:
        return True
    number = words[NUMBER_AT[word]]
    if not are_figures(number, MOST_FIGURES):
        return False
    return word != "watch" or 1 <= int(number) <= MOST_WEIGHT


def read_item(form, words):
    """The item that words write."""
    word = words[0]
    if word == "ask":
        return word, read_ask(form, " ".join(words[1:]))
    if word == "put":
        return word, read_row(form, words[1])
    conditions = read_conditions(form, words[1])
    if word == "drop":
        return word, conditions
    # No value is one of the kind of a column that is none.
    return word, conditions, words[2], read_value(kind_of(form, words[2]), words[3])


def read_named(advisor, text):
    """The design with its table, (table, kind, columns), that a text writes."""
    name, colon, rest = text.partition(":")
    kind, columns = read_design(advisor.store_of(name).form, rest)
    return name, kind, columns


def show_named(named):
    """The text of a design with its table, (table, kind, columns)."""
    table, kind, columns = named
    return f"{table}:{show_design((kind, columns))}"


def listed(parts):
    """Some texts with blanks between, perhaps none."""
    return " ".join(parts) if parts else NONE


def say_table(advisor, words):
    """A table comes."""
    advisor.table(words[1], read_form(words[2]), words[3], key=read_columns(words[4]))
    return DONE


def item_said(advisor, words):
    """The item that a row writes by its own word, behind its table's name."""
    return read_item(advisor.store_of(words[1]).form, [words[0]] + words[2:])


def say_put(advisor, words):
    """A row is put."""
    word, row = item_said(advisor, words)
    return str(advisor.put(words[1], row))


def say_drop(advisor, words):
    """Rows are dropped."""
    word, conditions = item_said(advisor, words)
    return str(advisor.drop(words[1], conditions))


def say_set(advisor, words):
    """Rows get a value."""
    word, conditions, column, value = item_said(advisor, words)
    return str(advisor.change(words[1], conditions, column, value))


def say_make(advisor, words):
    """A design is made."""
    advisor.make(words[1], read_design(advisor.store_of(words[1]).form, words[2]))
    return DONE


def say_unmake(advisor, words):
    """A design is dropped."""
    advisor.unmake(words[1], read_design(advisor.store_of(words[1]).form, words[2]))
    return DONE


def say_watch(advisor, words):
    """An item is watched."""
    item = read_item(advisor.store_of(words[1]).form, words[ITEM_AT:])
    return str(advisor.watch(words[1], item, weight=int(words[2])))


def say_unwatch(advisor, words):
    """An item is watched no longer."""
    advisor.unwatch(int(words[1]))
    return DONE


def ask_said(advisor, words):
    """The ask that a row writes behind its table's name."""
    return read_ask(advisor.store_of(words[1]).form, " ".join(words[2:]))


def say_answer(advisor, words):
    """An ask is answered."""
    return listed([show_row(row) for row in advisor.answer(words[1], ask_said(advisor, words))])


def say_ways(advisor, words):
    """The pages of an ask's ways are told."""
    return listed([str(touched) for way, touched in advisor.ways(words[1], ask_said(advisor, words))])


def say_cost(advisor, words):
    """A watched item's cost is told."""
    found, touched, keeping = advisor.cost(int(words[1]))
    return f"{found} {touched} {sum(keeping)}"


def say_made(advisor, words):
    """The made designs are told."""
    return listed([show_named(named) for named in advisor.made()])


def say_touched(advisor, words):
    """The numbers that the last deed touched are told."""
    return listed([str(number) for number in advisor.touched()])


def say_spent(advisor, words):
    """What was spent is told."""
    return listed([str(pages) for pages in advisor.spent()])


def say_advise(advisor, words):
    """The best designs among the candidates are told."""
    designs, least, paper = advisor.advise(room=int(words[1]))
    chosen = listed([show_named(named) for named in designs])
    return f"{least} {chosen}"


def say_steps(advisor, words):
    """The steps to just the designs of a row are told."""
    goal = [read_named(advisor, word) for word in words[2:]]
    word, told = advisor.route(goal, room=int(words[1]))
    if word == "none":
        return word
    return "; ".join([f"{deed} {show_named(named)}" for deed, named in told]) if told else NONE


ACTIONS = {
    "table": say_table, "put": say_put, "drop": say_drop, "set": say_set, "make": say_make, "unmake": say_unmake,
    "watch": say_watch, "unwatch": say_unwatch, "answer": say_answer, "ways": say_ways, "cost": say_cost,
    "made": say_made, "touched": say_touched, "spent": say_spent, "advise": say_advise, "steps": say_steps,
}


class Desk:
    """An advisor that is told texts."""

    def __init__(self, shape=None):
        self.advisor = Advisor(shape)

    def say(self, row):
        """Tell a row: the answer."""
        if not isinstance(row, str):
            raise NoSaying("the thing is no text")
        words = row.split(" ")
        if not is_saying(words):
            raise NoSaying("the text is none of the rows")
        action = ACTIONS[words[0]]
        return action(self.advisor, words)
