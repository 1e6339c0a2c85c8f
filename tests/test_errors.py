"""The interface of gripwood/errors.py."""

import copy
import pickle
import unittest

from gripwood import errors
from tests.helper import WORDS, WoodCase

FIELDS = {"Touch": ["cell"], "Held": ["by"], "Stopped": ["one", "other"], "BadPull": ["at"]}
WORTHS = {"Touch": [(1, -2, 3)], "Held": [4], "Stopped": [5, 0], "BadPull": [0]}


def made(name):
    kind = getattr(errors, name)
    return kind(*WORTHS.get(name, []))


class Classes(WoodCase):
    def test_any_refusal_is_a_value_error(self):
        self.assertEqual(errors.WoodError.__bases__, (ValueError,))

    def test_any_refusal_has_a_word(self):
        self.assertEqual(errors.WoodError("some word").word, "some word")
        self.assertIs(type(errors.WoodError().word), str)

    def test_there_are_just_these(self):
        kinds = [name for name, kind in vars(errors).items() if isinstance(kind, type)]
        self.assertEqual(len(WORDS), 26)
        self.assertEqual(sorted(kinds), sorted([*WORDS, "WoodError"]))

    def test_each_is_straight_under_wood_error(self):
        for name in WORDS:
            with self.subTest(name):
                self.assertEqual(getattr(errors, name).__bases__, (errors.WoodError,))

    def test_each_has_its_word(self):
        for name, word in WORDS.items():
            with self.subTest(name):
                self.same(made(name).word, word)

    def test_each_is_caught_as_any_refusal(self):
        for name, word in WORDS.items():
            with self.subTest(name):
                try:
                    raise made(name)
                except errors.WoodError as caught:
                    self.assertEqual(caught.word, word)


class Fields(WoodCase):
    def test_fields_have_what_was_handed_in(self):
        for name, fields in FIELDS.items():
            with self.subTest(name):
                self.same([getattr(made(name), field) for field in fields], WORTHS[name])

    def test_fields_are_set_on_each_object(self):
        for name in WORDS:
            with self.subTest(name):
                bare = getattr(errors, name)()
                self.assertEqual(sorted(vars(bare)), sorted([*FIELDS.get(name, []), "word"]))

    def test_objects_do_not_share_fields(self):
        one, other = errors.Held(1), errors.Held(2)
        self.assertEqual((one.by, other.by), (1, 2))


class Messages(WoodCase):
    def test_each_has_a_message(self):
        for name in WORDS:
            with self.subTest(name):
                self.assertNotEqual(str(made(name)), "")

    def test_a_message_does_not_change_the_word(self):
        for name, word in WORDS.items():
            if name not in FIELDS:
                with self.subTest(name):
                    error = getattr(errors, name)("why it is so")
                    self.assertEqual((error.word, str(error)), (word, "why it is so"))

    def test_copies_keep_word_and_fields(self):
        for name in WORDS:
            with self.subTest(name):
                error = made(name)
                for twin in (copy.deepcopy(error), pickle.loads(pickle.dumps(error))):
                    self.assertIs(type(twin), type(error))
                    self.assertEqual(vars(twin), vars(error))
                    self.assertEqual(str(twin), str(error))


if __name__ == "__main__":
    unittest.main()
