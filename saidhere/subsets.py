"""Sets of standings that one row can lead to at once, where a step may go several ways.

A machine of several ways has standings with a mask of followers for each letter; a row is accepted if one
way leads to the goal. Sets of standings are told as masks, too.
"""

from saidhere.masks import has_bit, mask_of
from saidhere.readers import check_most

MOST_TESTS = 256


def before(steps, mask, letter):
    """The standings from which the letter can lead into a mask."""
    return mask_of([followers[letter] & mask != 0 for followers in steps])


def tests_of(steps, goal):
    """The masks of the standings from which one row behind, the same for all, can lead to the goal.

    Told are so many of them as are wanted at most, from the shortest rows on, and whether these are all.
    """
    tests = [goal]
    met = {goal: True}
    at = 0
    while at < len(tests) and len(tests) <= MOST_TESTS:
        for letter in range(len(steps[0])):
            test = before(steps, tests[at], letter)
            if test not in met:
                met[test] = True
                tests.append(test)
        at += 1
    return tests, at == len(tests)


def alive_of(steps, goal):
    """The standings from which some row leads to the goal."""
    alive = goal
    many = 0
    while many != alive:
        many = alive
        alive = goal | mask_of([any([mask & many for mask in followers]) for followers in steps])
    return alive


class Subsets:
    """Stands that are sets of standings: those to which a row can lead.

    Sets that a row behind parts are different standings of any reader of the same rows, so more of them
    than most are an error. If all tests are known, sets which none of them parts are taken for one.
    """

    def __init__(self, steps, begin, goal, most):
        self.steps = steps
        self.goal = goal
        self.most = most
        self.width = len(steps[0])
        self.tests, self.exact = tests_of(steps, goal)
        self.alive = alive_of(steps, goal)
        self.signs = {}
        self.begin = self.settled(begin)

    def settled(self, states):
        """The set that stands for a set."""
        live = states & self.alive
        sign = mask_of([live & test != 0 for test in self.tests])
        if sign not in self.signs:
            self.signs[sign] = live
            check_most(len(self.signs), self.most)
        return self.signs[sign] if self.exact else live

    def followed(self, stand, number):
        """The stand to which a letter leads."""
        states = 0
        for standing, followers in enumerate(self.steps):
            if has_bit(stand, standing):
                states = states | followers[number]
        return self.settled(states)

    def accepts(self, stand):
        """Whether the rows that lead there are accepted."""
        return stand & self.goal != 0
