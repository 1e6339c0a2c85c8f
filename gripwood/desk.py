"""A desk: a past to which one talks in rows of text."""

from gripwood.errors import WoodError
from gripwood.notes import read_deed
from gripwood.past import Past
from gripwood.words import read_words, shown_cells, shown_groups, shown_number, shown_numbers

# Of what kinds the things are that are handed to each question.
QUESTIONS = {
    "cells": ("number",),
    "where": ("number",),
    "knots": ("number",),
    "core": ("number",),
    "along": ("number", "way", "numbers"),
}


class Desk:
    """A past that is told rows and answers with texts."""

    def __init__(self):
        self.past = Past()
        self.rows = []

    def say(self, row):
        """The answer to a row."""
        try:
            return self.answer(row)
        except WoodError as refusal:
            return f"refused {refusal.word}"

    def log(self):
        """The rows that did a deed, an undoing or a redoing."""
        return list(self.rows)

    def answer(self, row):
        """The answer to a row, where nothing refuses it."""
        name, *words = row.split(" ")
        if name in QUESTIONS:
            return self.asked(name, read_words(QUESTIONS[name], words))
        told = self.did(row)
        self.rows.append(row)
        return shown_told(told)

    def asked(self, name, handed):
        """The answer to a question."""
        shop = self.past.shop
        match name:
            case "cells":
                return shown_cells(shop.cells(*handed))
            case "where":
                return shown_number(shop.where(*handed))
            case "knots":
                return shown_groups(shop.knots(*handed))
            case "core":
                return shown_numbers(shop.core(*handed))
        return shown_numbers(shop.along(*handed))

    def did(self, row):
        """Undoes, redoes or does what a row writes, and tells what this tells."""
        if row == "undo":
            return self.past.undo()
        if row == "redo":
            return self.past.redo()
        return self.past.does(read_deed(row))


def shown_told(told):
    """What a deed tells, as a desk answers it."""
    if told is None:
        return "ok"
    return shown_numbers(told) if isinstance(told, list) else shown_number(told)
