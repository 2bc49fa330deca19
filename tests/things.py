"""Things of every sort that the document's point 2 calls any thing."""


def nested(depth, make):
    """An empty list or tuple, `depth` deep within others of its sort."""
    thing = make([])
    for _ in range(depth - 1):
        thing = make([thing])
    return thing


SIXTY_FIGURES = int("9" * 60)
LONG_TEXT = "".join(chr(code) for code in range(32, 127) if chr(code) != "\x25") * 21


def odd_things():
    """New things that are no value, no form, no row and no number of a shape."""
    return [
        True,
        False,
        None,
        "",
        " ",
        "~",
        "A",
        "abcdefghi",
        SIXTY_FIGURES,
        -SIXTY_FIGURES,
        LONG_TEXT,
        LONG_TEXT.replace(" ", "a"),
        [],
        (),
        [1],
        (1,),
        ["a"],
        ("a",),
        [None, True],
        ([("a", "number")],),
        nested(10, list),
        nested(10, tuple),
        [1] * 1499,
        ("a",) * 1499,
        [[("a", [1, (None, [True])])]],
    ]
