"""Deeds and stacks, written and read."""

from gripwood.deeds import done
from gripwood.errors import BadText
from gripwood.stacks import cells_of, numbers_of
from gripwood.words import read_words, shown_words
from gripwood.workshop import Workshop

# Of what kinds the things are that are handed to each deed.
DEEDS = {
    "heap": (),
    "lay": ("number", "cells"),
    "burn": ("number",),
    "carve": ("number", "cell"),
    "plug": ("number", "cell"),
    "saw": ("number", "line", "number"),
    "peg": ("number", "cell", "way", "number"),
    "unpeg": ("number",),
    "pull": ("number", "way", "numbers"),
    "home": ("number", "number", "way"),
    "turn": ("number", "turn"),
    "shift": ("number", "cell"),
    "press": ("number", "way"),
    "bar": ("line",),
    "unbar": ("line",),
    "draft": ("number",),
}
BLOCK = ("number", "cells")


def shown_deed(deed):
    """A deed as it is written."""
    name, *handed = deed
    return " ".join([name] + shown_words(DEEDS[name], handed))


def read_deed(text):
    """The deed that a text writes."""
    name, *words = text.split(" ")
    if name not in DEEDS:
        raise BadText("this is no deed")
    return tuple([name] + read_words(DEEDS[name], words))


def shown_stack(stack):
    """A stack as it is written."""
    return "\n".join([" ".join(shown_words(BLOCK, block)) for block in stack])


def read_stack(text):
    """The stack that a text writes."""
    rows = text.split("\n") if text else []
    stack = [tuple(read_words(BLOCK, row.split(" "))) for row in rows]
    if not rises([-1] + numbers_of(stack)) or not all(rises(cells) for number, cells in stack):
        raise BadText("numbers from nought on and cells have to rise")
    cells = cells_of(stack)
    if len(set(cells)) < len(cells):
        raise BadText("a cell comes twice")
    return stack


def rises(things):
    """Whether each next one is greater than the one before."""
    return all(one < other for one, other in zip(things, things[1:]))


def relived(rows):
    """The workshop in which the deeds that rows write were done."""
    shop = Workshop()
    for row in rows:
        done(shop, read_deed(row))
    return shop
