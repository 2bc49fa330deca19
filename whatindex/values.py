"""Values, forms and rows, and the mark of some values."""

KINDS = ("number", "word")
MOST_LETTERS = 8
MOST_NUMBER = 999
MOST_COLUMNS = 6

MARK_START = 7
MARK_FACTOR = 31
MARK_BOUND = 1009
# More than MOST_NUMBER, so that the least value has a number above 0 too.
NUMBER_SHIFT = 1000
WORD_BASE = 27


def is_whole(thing):
    """Whether a thing is a whole number: truths are ints in Python, but none here."""
    return isinstance(thing, int) and not isinstance(thing, bool)


def is_word(thing):
    """Whether a thing is a word; names are words, too."""
    if not isinstance(thing, str) or not 1 <= len(thing) <= MOST_LETTERS:
        return False
    return all(["a" <= letter <= "z" for letter in thing])


def is_value(kind, thing):
    """Whether a thing is a value of a kind."""
    if kind == "number":
        return is_whole(thing) and -MOST_NUMBER <= thing <= MOST_NUMBER
    return kind == "word" and is_word(thing)


def is_between(value, low, high):
    """Whether a value is within two bounds, each of which may be None."""
    return (low is None or low <= value) and (high is None or value <= high)


def is_column(thing):
    """Whether a thing is a column of a form: (name, kind)."""
    if not isinstance(thing, tuple) or len(thing) != 2:
        return False
    return is_word(thing[0]) and thing[1] in KINDS


def is_form(thing):
    """Whether a thing is a form."""
    if not isinstance(thing, tuple) or not 1 <= len(thing) <= MOST_COLUMNS:
        return False
    if not all([is_column(column) for column in thing]):
        return False
    return len({name for name, kind in thing}) == len(thing)


def is_row(form, thing):
    """Whether a thing is a row of a form."""
    if not isinstance(thing, tuple) or len(thing) != len(form):
        return False
    return all([is_value(kind, value) for (name, kind), value in zip(form, thing)])


def word_number(word):
    """The letters' numbers, a being 1, read as figures."""
    number = 0
    for letter in word:
        number = number * WORD_BASE + ord(letter) - ord("a") + 1
    return number


def value_number(value):
    """The number by which a value goes into a mark."""
    if isinstance(value, str):
        return word_number(value)
    return value + NUMBER_SHIFT


def mark(values):
    """The mark of a tuple of values, from 0 to 1008."""
    so_far = MARK_START
    for value in values:
        so_far = (so_far * MARK_FACTOR + value_number(value)) % MARK_BOUND
    return so_far
