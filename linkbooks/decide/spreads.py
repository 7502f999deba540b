"""What comes behind the start of a course, and what leads to a goal."""

from linkbooks.errors import TooMany

# So many spots may come behind the start where two plans, or two books, are compared.
MAX_SPOTS = 20000


class Spread:
    """All spots that come behind the start of a course, numbered from 0 on: the start first, and each one ahead of
    those that are more roads away from it."""

    def __init__(self, course, most):
        start = course.start()
        self.spots = [start]
        self.numbers = {start: 0}
        self.arrivals = [None]
        self.onward = []
        while len(self.onward) < len(self.spots):
            self.onward.append(self._followers(course, len(self.onward), most))

    def _followers(self, course, at, most):
        """The numbers of the spots that follow from the one with this number. There may be so many but the start."""
        follow = {}
        roads = course.moves_from(self.spots[at])
        for road in roads:
            number = self.numbers.get(road[1])
            if number is None:
                if len(self.spots) > most:
                    raise TooMany(most)
                number = len(self.spots)
                self.numbers[road[1]] = number
                self.spots.append(road[1])
                self.arrivals.append((at, road[0]))
            follow[number] = True
        return list(follow)


def leading_to(onward, goals):
    """The dict of the numbers of all spots from which roads lead to one of these goals, by the numbers of those that
    follow from each one."""
    backward = [[] for _ in onward]
    for at in range(len(onward)):
        for after in onward[at]:
            backward[after].append(at)
    found = {goal: True for goal in goals}
    waiting = list(goals)
    while waiting:
        here = backward[waiting.pop()]
        for before in here:
            if before not in found:
                found[before] = True
                waiting.append(before)
    return found
