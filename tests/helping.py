"""What the tests share: asking a function with lists and with tuples, and comparing errors."""

import unittest

from heldbest.errors import OutOfRange
from heldbest.tables import Table
from heldbest.tabletexts import read_table

HUGE = 10 ** 40

EXAMPLE = "most 3\nplaces 1 1\nrow 4 1\nrow 3 2\nrow 2 2"

FIELDS = {
    "OutOfRange": ("what", "value"),
    "Unread": ("line",),
    "Unfit": ("fault",),
    "NotAccepted": ("fault",),
    "BadStart": ("fault",),
    "BadSlips": ("fault",),
    "TooHeavy": ("work",),
    "NotBest": ("value",),
    "NotOneChange": (),
    "BadWord": ("word",),
    "Busy": ("target",),
    "NoLetter": ("at",),
    "Down": ("kind", "number"),
    "Up": ("kind", "number"),
    "NotSynced": ("kind", "number"),
    "BadEvent": ("at",),
    "NotAtRest": (),
    "NothingToUndo": (),
    "NothingToRedo": (),
    "Warm": ("era",),
}


def example():
    return read_table(EXAMPLE)


def as_lists(thing):
    if isinstance(thing, (list, tuple)):
        return [as_lists(item) for item in thing]
    return thing


def as_tuples(thing):
    if isinstance(thing, (list, tuple)):
        return tuple(as_tuples(item) for item in thing)
    return thing


def lists_of_tuples(thing):
    return list(as_tuples(thing)) if isinstance(thing, (list, tuple)) else thing


def tuples_of_lists(thing):
    return tuple(as_lists(thing)) if isinstance(thing, (list, tuple)) else thing


FORMS = (as_lists, as_tuples, lists_of_tuples, tuples_of_lists)


def shown(thing):
    """A text in which lists and tuples, numbers and truths, and tables by their fields, are told apart."""
    if isinstance(thing, Table):
        return f"Table({shown(thing.places)}, {shown(thing.rows)}, {shown(thing.most)})"
    if isinstance(thing, list):
        return "[" + ", ".join(shown(item) for item in thing) + "]"
    if isinstance(thing, tuple):
        return "(" + "".join(shown(item) + ", " for item in thing) + ")"
    if isinstance(thing, dict):
        return "{" + "".join(f"{key}: {shown(item)}, " for key, item in thing.items()) + "}"
    return repr(thing)


def error_shown(error):
    name = error.__class__.__name__
    return name + shown(tuple(getattr(error, field) for field in FIELDS.get(name, ())))


class Case(unittest.TestCase):
    """Each question is asked with lists, with tuples, and with each of them inside of the other."""

    maxDiff = None

    def asked(self, ask, passed, named):
        before = shown((passed, named))
        try:
            return ask(*passed, **named)
        finally:
            self.assertEqual(shown((passed, named)), before, "what was passed has changed")

    def answers(self, expected, ask, *passed, **named):
        for form in FORMS:
            told = {key: form(item) for key, item in named.items()}
            answer = self.asked(ask, tuple(form(item) for item in passed), told)
            self.assertEqual(shown(answer), shown(expected), (ask, passed, named))

    def refuses(self, expected, ask, *passed, **named):
        for form in FORMS:
            told = {key: form(item) for key, item in named.items()}
            with self.assertRaises(expected.__class__, msg=(ask, passed, named)) as caught:
                self.asked(ask, tuple(form(item) for item in passed), told)
            self.assertEqual(error_shown(caught.exception), error_shown(expected), (ask, passed, named))

    def refuses_lots(self, ask, ahead, behind=()):
        """`ask` has a lot of three seekers between what it is passed ahead of it and behind it."""
        for wrong in (-1, 3, HUGE, -HUGE):
            self.refuses(OutOfRange("seeker", wrong), ask, *ahead, [wrong], *behind)
            self.refuses(OutOfRange("seeker", wrong), ask, *ahead, [0, wrong, 0], *behind)
        self.refuses(OutOfRange("seeker", 1), ask, *ahead, [1, 1], *behind)
        self.refuses(OutOfRange("seeker", 0), ask, *ahead, [0, 1, 0, 9], *behind)
        self.refuses(OutOfRange("seeker", 1), ask, *ahead, [2, 1], *behind)

    def refuses_one(self, what, wrongs, ask, ahead, behind=()):
        """Each of the wrong numbers is refused where it stands between what is passed ahead of it and behind it."""
        for wrong in (*wrongs, HUGE, -HUGE):
            self.refuses(OutOfRange(what, wrong), ask, *ahead, wrong, *behind)
