"""Numbers as they are written in calls, in programs and in rows of the desk."""


def number_of(word, least, most):
    # Each number has one writing alone, the one that Python gives it, so a writing with a nought
    # ahead, with a plus, or in other figures is none of these.
    for number in range(least, most + 1):
        if str(number) == word:
            return number
    return None
