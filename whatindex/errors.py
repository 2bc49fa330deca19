"""The errors of the program, one class for each kind of refusal."""


def own_copy(thing):
    """The same thing, sharing no list with the one handed in."""
    if isinstance(thing, list):
        return [own_copy(part) for part in thing]
    if isinstance(thing, tuple):
        return tuple([own_copy(part) for part in thing])
    return thing


class NoShape(ValueError):
    """A number of a shape is wrong; `name` says which."""

    def __init__(self, name):
        ValueError.__init__(self, f"{name} is no such number of a shape")
        self.name = name


class NoStore(ValueError):
    """A store can't be so; `part` says what is wrong."""

    def __init__(self, part):
        ValueError.__init__(self, f"the {part} is none of a store")
        self.part = part


class NoRow(ValueError):
    """A thing is no row of the form."""


class NoNumber(KeyError):
    """No row has the number `number`, which may be any thing."""

    def __init__(self, number):
        KeyError.__init__(self, "no row has this number")
        # A list handed in may be changed later; what was told must not be.
        self.number = own_copy(number)


class NoDesign(ValueError):
    """A thing is no design of the form."""


class NoWay(LookupError):
    """A thing is none of an ask's ways."""


class NoProof(Exception):
    """A paper or steps don't show what they should; `where` says the fault."""

    def __init__(self, where):
        Exception.__init__(self, f"no proof: {where}")
        self.where = where


class TooMany(OverflowError):
    """One more would be beyond the bound."""


class NoTable(KeyError):
    """No table has the name `name`, which may be any thing."""

    def __init__(self, name):
        KeyError.__init__(self, "no table has this name")
        self.name = own_copy(name)


class Taken(RuntimeError):
    """A table has the name already."""


class Made(RuntimeError):
    """The design is made already."""


class NotMade(RuntimeError):
    """The design isn't made."""


class NoItem(IndexError):
    """No watched item has the number `number`, which may be any thing."""

    def __init__(self, number):
        IndexError.__init__(self, "no watched item has this number")
        self.number = own_copy(number)


class BadItem(ValueError):
    """A thing is no item; `at` is the place of its fault."""

    def __init__(self, at):
        ValueError.__init__(self, f"no item, by its thing at {at}")
        self.at = at


class NoText(ValueError):
    """A thing is no text that can be read so."""


class NoSaying(ValueError):
    """A thing is none of the rows that a desk is told."""
