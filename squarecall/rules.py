"""Calls: read from a text to a list of rules, and written as their text again."""

from squarecall.errors import NoCall
from squarecall.figures import number_of

MOST_RULES = 12
MOST_TESTS = 6
MOST_STEPS = 8

FARTHEST_SEEN = 9
WIDEST_INNER = 200
LONGEST_STEP = 9

WHATS = ("none", "any", "same", "left", "about", "right", "partner", "opposite")
LONE_WORDS = ("head", "side", "lefts", "rights", "inward", "outward", "sideways")
GOINGS = ("ahead", "back", "left", "right")
TURNINGS = ("left", "right", "about")


def read_number(word, least, most):
    number = number_of(word, least, most)
    if number is None:
        raise NoCall(f"no number from {least} to {most}: {word!r}")
    return number


def read_at(words):
    if len(words) != 4 or words[3] not in WHATS:
        raise NoCall(f"no test: {words!r}")
    ahead = read_number(words[1], -FARTHEST_SEEN, FARTHEST_SEEN)
    right = read_number(words[2], -FARTHEST_SEEN, FARTHEST_SEEN)
    if ahead == 0 and right == 0:
        raise NoCall("a test of the dancer's own spot")
    return ("at", ahead, right, words[3])


def read_inner(words):
    if len(words) != 2:
        raise NoCall(f"no test: {words!r}")
    return ("inner", read_number(words[1], 0, WIDEST_INNER))


def read_plain_test(words):
    if words[0] == "at":
        return read_at(words)
    if words[0] == "inner":
        return read_inner(words)
    if len(words) != 1 or words[0] not in LONE_WORDS:
        raise NoCall(f"no test: {words!r}")
    return (words[0],)


def read_test(text):
    words = text.split(" ")
    if len(words) > 1 and words[0] == "not":
        return ("not", read_plain_test(words[1:]))
    return read_plain_test(words)


def read_tests(text):
    texts = text.split(" and ")
    if len(texts) > MOST_TESTS:
        raise NoCall("a rule of too many tests")
    return tuple([read_test(test) for test in texts])


def read_step(word, more):
    if word == "turn" and more in TURNINGS:
        return (word, more)
    if word not in GOINGS:
        raise NoCall(f"no step: {word!r} {more!r}")
    return (word, read_number(more, 1, LONGEST_STEP))


def read_steps(text):
    if text == "stay":
        return (("stay",),)
    words = text.split(" ")
    # All steps but `stay`, which stands alone, are of two words.
    if len(words) % 2 != 0 or len(words) > 2 * MOST_STEPS:
        raise NoCall(f"no steps: {text!r}")
    return tuple([read_step(words[place], words[place + 1]) for place in range(0, len(words), 2)])


def read_rule(text):
    if text.startswith("> "):
        return ((), read_steps(text[2:]))
    parts = text.partition(" > ")
    if parts[1] == "":
        raise NoCall(f"no rule: {text!r}")
    return (read_tests(parts[0]), read_steps(parts[2]))


def read_call(text):
    if not isinstance(text, str):
        raise NoCall("no text")
    texts = text.split(" ; ")
    if len(texts) > MOST_RULES:
        raise NoCall("a call of too many rules")
    return [read_rule(rule) for rule in texts]


def shown_words(parts):
    return " ".join([str(part) for part in parts])


def shown_test(test):
    if test[0] == "not":
        return "not " + shown_words(test[1])
    return shown_words(test)


def shown_rule(rule):
    tests = " and ".join([shown_test(test) for test in rule[0]])
    steps = " ".join([shown_words(step) for step in rule[1]])
    return f"{tests} > {steps}" if tests else f"> {steps}"


def shown_call(call):
    return " ; ".join([shown_rule(rule) for rule in call])
