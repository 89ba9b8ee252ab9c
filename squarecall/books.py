"""Books: calls by their names."""

from squarecall.errors import NoName, TooMany
from squarecall.rules import read_call

MOST_CALLS = 60
LONGEST_NAME = 8
LETTERS = "abcdefghijklmnopqrstuvwxyz"

# The words that programs keep for themselves.
KEPT = ("times", "heads", "sides", "lefts", "rights", "inner", "couples")


def is_name(thing):
    if not isinstance(thing, str) or not 1 <= len(thing) <= LONGEST_NAME:
        return False
    return thing not in KEPT and all([sign in LETTERS for sign in thing])


class Book:
    def __init__(self, texts):
        if len(texts) > MOST_CALLS:
            raise TooMany(f"more than {MOST_CALLS} calls")
        # All names are looked at ahead of the first text: any NoName comes ahead of each NoCall.
        for name in texts:
            if not is_name(name):
                raise NoName(f"no name of a call: {name!r}")
        self.calls = {}
        for name in texts:
            self.calls[name] = read_call(texts[name])

    def names(self):
        return sorted(self.calls)

    def call(self, name):
        if not isinstance(name, str) or name not in self.calls:
            raise NoName(f"no call of the book: {name!r}")
        # A copy, for the asker may change the list; the rules in it are tuples and stay.
        return list(self.calls[name])
