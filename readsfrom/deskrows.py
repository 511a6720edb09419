"""Rows that a desk is told: their words and what these write."""

from readsfrom.calls import read_call, read_figure
from readsfrom.errors import NoRow
from readsfrom.forms import is_name
from readsfrom.programs import MOST_HANDS
from readsfrom.programtexts import FIGURES

# Behind its first word, a row has words of these kinds; the last one any number of times where it is notes or steps.
ROWS = {
    "stronger": ("name", "name", "notes"),
    "drop": ("name",),
    "names": (),
    "show": ("name",),
    "count": ("name",),
    "outcomes": ("name",),
    "turns": ("name",),
    "clash": ("name",),
    "ledger": ("name",),
    "picks": ("name",),
    "begin": ("name",),
    "steps": (),
    "step": ("step",),
    "back": (),
    "play": ("steps",),
    "now": (),
    "drawn": (),
}
MANY = ("notes", "steps")


def read_row(row):
    """Tell the row's first word and what its other ones write; refuse what is no row."""
    if not isinstance(row, str) or "\n" in row:
        raise NoRow()
    parts = _read_program(row) if row.startswith("program ") else _read_words(row.split(" "))
    if None in parts:
        raise NoRow()
    return parts


def _read_program(row):
    """Tell the parts of `program NAME TEXT`, None among them where the row is none."""
    word, _, rest = row.partition(" ")
    name, blank, text = rest.partition(" ")
    return [word, name if is_name(name) and blank == " " else None, text]


def _read_words(words):
    """Tell what the words write, None among it where they are no row."""
    kinds = ROWS.get(words[0])
    if kinds is None:
        return [None]
    if len(kinds) > 0 and kinds[-1] in MANY:
        kinds = kinds[:-1] + kinds[-1:] * (len(words) - len(kinds))
    if len(words) != 1 + len(kinds):
        return [None]
    return [words[0]] + [_read_word(kind, word) for kind, word in zip(kinds, words[1:])]


def _read_word(kind, word):
    """Tell what the word of this kind writes, None where it is none."""
    if kind == "name":
        return word if is_name(word) else None
    return read_call(word, MOST_HANDS) if kind == "notes" else _read_step(word)


def _read_step(word):
    first, _, place = word.partition(".")
    hand = read_figure(first, MOST_HANDS)
    if hand is None or not _is_place(place):
        return None
    return (hand, None if place == "-" else int(place))


def _is_place(word):
    """Tell whether the word is `-`, or a number of at most two figures without a nought ahead."""
    if word == "-":
        return True
    if not 1 <= len(word) <= 2 or not all([sign in FIGURES for sign in word]):
        return False
    return len(word) == 1 or word[0] != "0"
