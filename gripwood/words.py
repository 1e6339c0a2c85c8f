"""What words write, and how it is written: numbers, cells, ways, lines and turns."""

from gripwood.errors import BadText
from gripwood.turning import is_turn
from gripwood.ways import lines, ways

FIGURES = "0123456789"
MOST_FIGURES = 9
NONE = "-"


def shown_word(word):
    """A way or a line as it is written."""
    return word


def shown_number(number):
    """A number as it is written."""
    return str(number)


def shown_numbers(numbers):
    """A list of numbers as it is written."""
    return ",".join([shown_number(number) for number in numbers]) or NONE


def shown_groups(groups):
    """A list of groups as it is written."""
    return " ".join([shown_numbers(group) for group in groups]) or NONE


def shown_cell(cell):
    """A cell as it is written."""
    return ",".join([shown_number(number) for number in cell])


def shown_cells(cells):
    """A list of cells as it is written."""
    return " ".join([shown_cell(cell) for cell in cells])


def shown_turn(turn):
    """A turn as it is written."""
    return ",".join(turn)


def read_way(word):
    """The way that a word writes."""
    if word not in ways():
        raise BadText("this is no way")
    return word


def read_line(word):
    """The line that a word writes."""
    if word not in lines():
        raise BadText("this is no line")
    return word


def read_number(word):
    """The number that a word writes."""
    figures = word[1:] if word.startswith("-") else word
    if not 0 < len(figures) <= MOST_FIGURES or any(sign not in FIGURES for sign in figures):
        raise BadText("this is no number")
    number = int(word)
    # Noughts ahead and a nought below nought are read to a number that is written otherwise.
    if shown_number(number) != word:
        raise BadText("this is no number as it is written")
    return number


def read_numbers(word):
    """The list of numbers that a word writes."""
    return [] if word == NONE else [read_number(part) for part in word.split(",")]


def read_cell(word):
    """The cell that a word writes."""
    numbers = [read_number(part) for part in word.split(",")]
    if len(numbers) != 3:
        raise BadText("this is no cell")
    return tuple(numbers)


def read_cells(text):
    """The list of cells, one at least, that words with blanks between write."""
    return [read_cell(word) for word in text.split(" ")]


def read_turn(word):
    """The turn that a word writes."""
    turn = tuple(word.split(","))
    if not is_turn(turn):
        raise BadText("this is no turn")
    return turn


SHOWN = {
    "way": shown_word,
    "line": shown_word,
    "number": shown_number,
    "numbers": shown_numbers,
    "cell": shown_cell,
    "cells": shown_cells,
    "turn": shown_turn,
}

READ = {
    "way": read_way,
    "line": read_line,
    "number": read_number,
    "numbers": read_numbers,
    "cell": read_cell,
    "cells": read_cells,
    "turn": read_turn,
}


def shown_words(kinds, things):
    """The words that write a thing of each kind."""
    words = []
    for kind, thing in zip(kinds, things):
        show = SHOWN[kind]
        words.append(show(thing))
    return words


def read_words(kinds, words):
    """The things that words write, one of each kind; cells, which are only ever the last of them, have all the rest."""
    many = len(kinds)
    if "cells" in kinds:
        words = words[:many - 1] + [" ".join(words[many - 1:])]
    if len(words) != many:
        raise BadText("there are too many words or too few")
    things = []
    for kind, word in zip(kinds, words):
        read = READ[kind]
        things.append(read(word))
    return things
