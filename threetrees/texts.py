"""Drawings written as texts, and read from them."""

from threetrees.drawings import checked
from threetrees.errors import NoText

# Python's own isdigit would also take figures of other scripts.
FIGURES = "0123456789"


def figures_text(places):
    return "".join([str(place) for place in places])


def drawing_text(drawing):
    return " ".join([figures_text(turn) for turn in drawing])


def is_turn_word(word):
    return word != "" and all([sign in FIGURES for sign in word])


def turn_read(word):
    return [int(sign) for sign in word]


def drawing_read(text):
    # Cut at the blank alone: split without it would pass over empty words.
    words = text.split(" ")
    for k, word in enumerate(words):
        if not is_turn_word(word):
            raise NoText(k)
    return checked([turn_read(word) for word in words])
