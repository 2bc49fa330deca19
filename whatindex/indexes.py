"""Indexes: a store's rows by the values of some columns."""

from whatindex.bits import Bits
from whatindex.buckets import Buckets
from whatindex.columns import are_columns, changed, column_names, picked
from whatindex.errors import NoDesign
from whatindex.runs import Run

# How many columns a design of each kind has at most.
MOST_BY_KIND = {"tree": 4, "hash": 3, "bits": 1}


def is_design(form, thing):
    """Whether a thing is a design of a form."""
    if not isinstance(thing, tuple) or len(thing) != 2:
        return False
    kind, columns = thing
    if not isinstance(kind, str) or kind not in MOST_BY_KIND:
        return False
    return are_columns(form, columns, 1, MOST_BY_KIND[kind])


def put_into(holder, kind, thing):
    """Put a thing into what an index of this kind keeps: the pages touched."""
    if kind == "bits":
        return holder.put(thing[0][0], thing[1])
    return holder.put(thing)


def drop_from(holder, kind, thing):
    """Drop a thing from what an index of this kind keeps: the pages touched."""
    if kind == "bits":
        return holder.drop(thing[0][0], thing[1])
    return holder.drop(thing)


def holder_of(shape, kind, things):
    """What an index of this kind keeps, made of things in rising order of numbers."""
    if kind == "tree":
        return Run(most=shape.entries, fan=shape.fan, things=things)
    holder = Bits(shape.bits) if kind == "bits" else Buckets(count=shape.buckets, most=shape.entries)
    for thing in things:
        put_into(holder, kind, thing)
    return holder


class Index:
    """The rows that a store had, and those told of since, by a design."""

    def __init__(self, store, design):
        if not is_design(store.form, design):
            raise NoDesign("the thing is no design of the form")
        self.design = design
        self.columns = column_names(store.form)
        things = [self.thing_of(number, row) for number, row in store.all_rows()]
        self.holder = holder_of(store.shape, design[0], things)

    def twin(self, bare):
        """An index that lies just so, sharing nothing that changes with this one; `bare` is a store like its own."""
        other = Index(bare, self.design)
        other.holder = self.holder.twin()
        return other

    def thing_of(self, number, row):
        """The thing that stands for a row in the index."""
        return picked(self.columns, row, self.design[1]), number

    def put(self, number, row):
        """Be told of a row that was put: the pages touched."""
        return put_into(self.holder, self.design[0], self.thing_of(number, row))

    def drop(self, number, row):
        """Be told of a row that was dropped: the pages touched."""
        return drop_from(self.holder, self.design[0], self.thing_of(number, row))

    def change(self, number, row, column, value):
        """Be told of a row, as it was, that got another value: the pages touched."""
        new_row = changed(self.columns, row, column, value)
        if column not in self.design[1] or new_row == row:
            return 0
        return self.drop(number, row) + self.put(number, new_row)

    def size(self):
        """How many pages the index has."""
        if self.design[0] == "tree":
            return self.holder.pages()
        if self.design[0] == "hash":
            return sum([len(bucket) for bucket in self.holder.pages()])
        return sum([self.holder.found(value)[1] for value in self.holder.kept()])
