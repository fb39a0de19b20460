"""Texts of loads and charts."""

from twoandabell.base.words import TICK_WORDS, is_number
from twoandabell.errors import InvalidOperation, ParseError
from twoandabell.run.loads import MAX_LOAD, check_load, is_load
from twoandabell.text.numbers import read_number

# The text of a load without ticks, and of a chart without numbers.
NOTHING = "-"
IDLE = "."
BELL = "*"
SIGNS = {"come": "+", "wake": "^"}
WORDS = {"+": "come", "^": "wake"}
MOST_DIGITS = 40


def write_load(load):
    """The text of a load."""
    check_load(load)
    return " / ".join([_tick_text(comings, word) for comings, word in load]) if load else NOTHING


def write_chart(chart):
    """The text of a chart."""
    if not _is_chart(chart):
        raise InvalidOperation("this has not the form of a chart")
    return " ".join([_told_text(told) for told in chart]) if chart else NOTHING


def read_load(text):
    """The load with this text."""
    if not isinstance(text, str):
        raise ParseError("this is no text")
    load = () if text == NOTHING else tuple([_read_tick(part) for part in text.split(" / ")])
    if not is_load(load):
        raise ParseError("this would be more than a load can hold")
    return load


def read_chart(text):
    """The chart with this text."""
    if not isinstance(text, str):
        raise ParseError("this is no text")
    chart = () if text == NOTHING else tuple([_read_told(part) for part in text.split(" ")])
    if not _is_chart(chart):
        raise ParseError("this would be more than a chart can hold")
    return chart


def _is_chart(value):
    """Whether the value has the form of a chart of some load."""
    if not isinstance(value, tuple) or len(value) > MAX_LOAD:
        return False
    return all([told is None or told == "bell" or is_number(told) for told in value])


def _tick_text(comings, word):
    return " ".join([*[f"{SIGNS[kind]}{number}" for kind, number in comings], word])


def _told_text(told):
    if told is None:
        return IDLE
    return BELL if told == "bell" else str(told)


def _read_tick(text):
    *comings, word = text.split(" ")
    if word not in TICK_WORDS:
        raise ParseError("a tick ends with its word")
    return (tuple([_read_coming(coming) for coming in comings]), word)


def _read_coming(text):
    if text[:1] not in WORDS:
        raise ParseError("this is no coming")
    return (WORDS[text[:1]], _read_number(text[1:]))


def _read_told(text):
    if text == IDLE:
        return None
    return "bell" if text == BELL else _read_number(text)


def _read_number(text):
    number = read_number(text, MOST_DIGITS)
    if number is None:
        raise ParseError("this is no number")
    return number
