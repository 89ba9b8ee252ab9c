"""Programs: read from a text to a list of items, and written as their text again."""

from squarecall.errors import NoProgram
from squarecall.figures import number_of

MOST_TIMES = 60
WIDEST_INNER = 200
MOST_OPEN = 6

SOMES = ("heads", "sides", "lefts", "rights")


def read_number(word, least, most):
    number = number_of(word, least, most)
    if number is None:
        raise NoProgram(f"no number from {least} to {most}: {word!r}")
    return number


def read_head(words):
    if len(words) == 1 and words[0] in SOMES:
        return ("some", words[0])
    if len(words) == 1 and words[0] == "couples":
        return ("couples",)
    if len(words) == 2 and words[0] == "inner":
        return ("inner", read_number(words[1], 0, WIDEST_INNER))
    if len(words) == 2 and words[1] == "times":
        return ("times", read_number(words[0], 1, MOST_TIMES))
    raise NoProgram(f"no item: {words!r}")


def end_of_bracket(words, start):
    depth = 0
    for place in range(start, len(words)):
        if words[place] == "(":
            depth += 1
        if words[place] == ")":
            depth -= 1
            if depth == 0:
                return place + 1
    raise NoProgram("neither a name of the book nor a bracket that is closed")


def read_bracket(names, words, depth):
    if depth > MOST_OPEN:
        raise NoProgram("too many open brackets")
    opening = words.index("(")
    inside = words[opening + 1:-1]
    if not inside:
        raise NoProgram("brackets without an item between")
    return read_head(words[:opening]) + (read_items(names, inside, depth),)


def read_items(names, words, depth):
    items = []
    place = 0
    while place < len(words):
        if words[place] in names:
            items.append(("call", words[place]))
            place += 1
        else:
            end = end_of_bracket(words, place)
            items.append(read_bracket(names, words[place:end], depth + 1))
            place = end
    return items


def read_program(book, text):
    if not isinstance(text, str):
        raise NoProgram("no text")
    # Split at its blanks, the text without signs would be one word without signs.
    words = text.split(" ") if text else []
    return read_items(book.names(), words, 0)


def shown_head(item):
    if item[0] == "times":
        return str(item[1]) + " times"
    if item[0] == "inner":
        return "inner " + str(item[1])
    return item[1] if item[0] == "some" else "couples"


def shown_item(item):
    if item[0] == "call":
        return item[1]
    return shown_head(item) + " ( " + shown_program(item[-1]) + " )"


def shown_program(items):
    return " ".join([shown_item(item) for item in items])
