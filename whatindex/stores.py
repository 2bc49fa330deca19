"""Stores: rows by numbers, kept in pages as the store's kind has it."""

from whatindex.buckets import Buckets
from whatindex.columns import are_columns, changed, column_names, picked
from whatindex.errors import NoNumber, NoRow, NoStore, TooMany
from whatindex.heaps import Heap
from whatindex.runs import Run
from whatindex.values import is_form, is_row, is_whole

STORE_KINDS = ("heap", "sorted", "hashed")
MOST_KEY = 3
MOST_ROWS = 60


def is_key(form, kind, thing):
    """Whether a thing is a key of a store of this form and kind."""
    if kind == "heap":
        return thing == ()
    return are_columns(form, thing, 1, MOST_KEY)


def wrong_part(form, kind, key):
    """The name of the first thing that no store has, or None."""
    if not is_form(form):
        return "form"
    if kind not in STORE_KINDS:
        return "kind"
    if not is_key(form, kind, key):
        return "key"
    return None


def empty_holder(shape, kind):
    """What a store of this kind keeps its things in."""
    if kind == "heap":
        return Heap(shape.rows)
    if kind == "sorted":
        return Run(most=shape.rows, fan=shape.fan)
    return Buckets(count=shape.buckets, most=shape.rows)


def pages_of_things(kind, holder):
    """The pages of a store's holder, one list of lists of things."""
    if kind == "heap":
        return holder.pages()
    if kind == "sorted":
        return holder.leaves()
    return [page for bucket in holder.pages() for page in bucket]


class Store:
    """Rows of a form, each with a number that no other one ever has."""

    def __init__(self, shape, form, kind="heap", *, key=()):
        wrong = wrong_part(form, kind, key)
        if wrong is not None:
            raise NoStore(wrong)
        self.shape = shape
        self.form = form
        self.kind = kind
        self.key = key
        self.holder = empty_holder(shape, kind)
        self.by_number = {}
        self.given = 0

    def twin(self):
        """A store that lies just so, sharing nothing that changes with this one."""
        other = Store(self.shape, self.form, self.kind, key=self.key)
        other.holder = self.holder.twin()
        other.by_number = dict(self.by_number)
        other.given = self.given
        return other

    def thing_of(self, number):
        """The thing that stands for a row in the store's pages; in a heap it has no values."""
        return picked(column_names(self.form), self.by_number[number], self.key), number

    def put(self, row):
        """Put a row: its number and the pages touched."""
        self.check(row)
        return self.lay(row)

    def check(self, row):
        """Refuse what can't be put now."""
        if not is_row(self.form, row):
            raise NoRow("the thing is no row of the form")
        if self.given >= MOST_ROWS:
            raise TooMany("all numbers of rows are given")

    def lay(self, row):
        """Put a row whatever numbers are gone, as it is told what one more would cost."""
        self.given += 1
        self.by_number[self.given] = row
        return self.given, self.holder.put(self.thing_of(self.given))

    def drop(self, number):
        """Drop the row of a number: the pages touched."""
        self.row(number)
        touched = self.holder.drop(self.thing_of(number))
        del self.by_number[number]
        return touched

    def change(self, number, column, value):
        """Give a row another value of one column: the pages touched."""
        row = self.row(number)
        new_row = changed(column_names(self.form), row, column, value)
        if new_row == row:
            return 0
        if column not in self.key:
            self.by_number[number] = new_row
            return 2
        touched = self.holder.drop(self.thing_of(number))
        self.by_number[number] = new_row
        return touched + self.holder.put(self.thing_of(number))

    def pages(self):
        """The pages, lists of the numbers of their rows."""
        return [[number for values, number in page] for page in pages_of_things(self.kind, self.holder)]

    def all_rows(self):
        """All rows as tuples (number, row), rising."""
        return [(number, self.by_number[number]) for number in sorted(self.by_number)]

    def row(self, number):
        """The row of a number."""
        if not is_whole(number) or number not in self.by_number:
            raise NoNumber(number)
        return self.by_number[number]
