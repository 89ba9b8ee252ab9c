"""The floors come to by calls of a book, and the shortest way home."""

from squarecall.dances import danced
from squarecall.errors import Blind, Meet, Out, TooMany
from squarecall.floors import HOME
from squarecall.turnings import form


# The rows laid so far, and the forms that they have; no row is laid behind that of the goal.
class Search:
    def __init__(self, goal, most):
        self.goal = goal
        self.most = most
        self.rows = []
        self.seen = {}

    def at_goal(self):
        return self.rows[-1][0] == self.goal

    def lay(self, floor, depth, parent, name):
        own = form(floor)
        if own in self.seen:
            return
        if len(self.rows) >= self.most:
            raise TooMany("more floors are come to than are asked for")
        self.seen[own] = True
        self.rows.append((own, depth, parent, name))

    def take_up(self, place, calls):
        row = self.rows[place]
        for name in calls:
            try:
                floor = danced(row[0], calls[name])
            except (Blind, Out, Meet):
                continue
            self.lay(floor, row[1] + 1, place, name)
            if self.at_goal():
                return


def rows_up_to(goal, book, floor, names, length, most):
    calls = {}
    for name in names:
        calls[name] = book.call(name)
    search = Search(goal, most)
    search.lay(floor, 0, None, None)
    place = 0
    while place < len(search.rows) and search.rows[place][1] < length and not search.at_goal():
        search.take_up(place, calls)
        place += 1
    return search.rows


def names_to(rows, place):
    names = []
    while rows[place][2] is not None:
        names.append(rows[place][3])
        place = rows[place][2]
    return list(reversed(names))


def reached(book, floor, names, length, most=2000):
    return rows_up_to(None, book, floor, names, length, most)


def way_home(book, floor, names, length, most=2000):
    goal = form(HOME)
    rows = rows_up_to(goal, book, floor, names, length, most)
    # Rows are laid the shorter way first, and of ways alike long by the order of the names.
    return names_to(rows, len(rows) - 1) if rows[-1][0] == goal else None
