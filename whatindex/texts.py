"""Texts: rows, forms, designs, conditions and asks, written and read."""

from whatindex.asks import ask_fault
from whatindex.columns import kind_of
from whatindex.conditions import are_conditions
from whatindex.errors import NoText
from whatindex.indexes import is_design
from whatindex.values import is_form, is_value

# Stands for none where nothing would be written.
NONE = "-"
FIGURES = "0123456789"
# Longer ones need not be read: no value and no first has more.
MOST_FIGURES = 3


def show_row(row):
    """The text of a row, or of some values."""
    return ",".join([str(value) for value in row])


def show_form(form):
    """The text of a form."""
    return ",".join([f"{name}:{kind}" for name, kind in form])


def show_columns(columns):
    """The text of a row of columns, perhaps of none."""
    return "+".join(columns) if columns else NONE


def show_design(design):
    """The text of a design."""
    kind, columns = design
    return f"{kind}:{show_columns(columns)}"


def show_bound(bound):
    """The text of a bound, nothing for None."""
    return "" if bound is None else str(bound)


def show_condition(condition):
    """The text of a condition."""
    column, word, *bounds = condition
    if word == "is":
        return f"{column}={bounds[0]}"
    return f"{column}={show_bound(bounds[0])}..{show_bound(bounds[1])}"


def show_conditions(conditions):
    """The text of conditions, perhaps of none."""
    return ",".join([show_condition(condition) for condition in conditions]) if conditions else NONE


def show_ask(ask):
    """The text of an ask."""
    wants, conditions, order, first = ask
    last = NONE if first is None else str(first)
    return f"{show_columns(wants)} {show_conditions(conditions)} {show_columns(order)} {last}"


def are_figures(text, most):
    """Whether a text is the plain figures of a number, at most so many, no 0 ahead of others."""
    if not 1 <= len(text) <= most or not all([sign in FIGURES for sign in text]):
        return False
    return text == "0" or text[0] != "0"


def text_of(thing):
    """Any thing, if it is a text."""
    if not isinstance(thing, str):
        raise NoText("the thing is no text")
    return thing


def read_number(text):
    """The whole number that a text writes; the text itself where it writes none."""
    if text == "-0" or not are_figures(text.removeprefix("-"), MOST_FIGURES):
        return text
    return int(text)


def read_value(kind, text):
    """The value of a kind that a text writes."""
    value = read_number(text) if kind == "number" else text
    if not is_value(kind, value):
        raise NoText("the text is no value of the kind")
    return value


def read_columns(text):
    """What may be columns' names, perhaps none."""
    return () if text == NONE else tuple(text.split("+"))


def read_row(form, text):
    """The row of a form that a text writes."""
    parts = text_of(text).split(",")
    if len(parts) != len(form):
        raise NoText("the text has another count of values")
    return tuple([read_value(kind, part) for (name, kind), part in zip(form, parts)])


def read_form(text):
    """The form that a text writes."""
    form = tuple([tuple(part.split(":")) for part in text_of(text).split(",")])
    if not is_form(form):
        raise NoText("the text is no form")
    return form


def read_design(form, text):
    """The design of a form that a text writes."""
    kind, colon, rest = text_of(text).partition(":")
    design = (kind, tuple(rest.split("+")))
    if not is_design(form, design):
        raise NoText("the text is no design")
    return design


def read_bound(kind, text):
    """The bound that a text writes, None for nothing."""
    return None if text == "" else read_value(kind, text)


def read_condition(form, text):
    """What may be a condition on a column of a form."""
    column, sign, rest = text.partition("=")
    kind = kind_of(form, column)
    low, dots, high = rest.partition("..")
    if dots == "":
        return column, "is", read_value(kind, rest)
    return column, "from", read_bound(kind, low), read_bound(kind, high)


def read_conditions(form, text):
    """The conditions on a form's columns that a text writes."""
    parts = [] if text == NONE else text_of(text).split(",")
    conditions = tuple([read_condition(form, part) for part in parts])
    if not are_conditions(form, conditions):
        raise NoText("the text is no conditions")
    return conditions


def read_ask(form, text):
    """The ask of a form that a text writes."""
    parts = text_of(text).split(" ")
    if len(parts) != 4:
        raise NoText("the text has another count of parts")
    wants, conditions, order, first = parts
    last = None if first == NONE else read_number(first)
    ask = (tuple(wants.split("+")), read_conditions(form, conditions), read_columns(order), last)
    if ask_fault(form, ask) is not None:
        raise NoText("the text is no ask")
    return ask
