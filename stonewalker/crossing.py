"""Webs that are one crossing of two ties away from a web."""

from stonewalker.errors import NoWeb
from stonewalker.stories import fits
from stonewalker.webs import first_comings, ties


def with_end(web, start, end):
    ends = web[start[0]]
    changed = ends[:start[1]] + (end,) + ends[start[1] + 1:]
    return web[:start[0]] + (changed,) + web[start[0] + 1:]


def with_tie(web, one, other):
    return with_end(with_end(web, one, other), other, one)


# The crossed web, None where it is none.
def by_ties(web, first, second, about):
    # A door that leads to itself has one end for two: crossed with an ordinary tie, it would have to lead two ways.
    if (first[0] == first[1]) != (second[0] == second[1]):
        return None
    former = second[about]
    latter = second[1 - about]
    told = with_tie(with_tie(web, first[0], latter), former, first[1])
    return told if len(first_comings(told, 0)) == len(told) else None


def crossed(web, one, other, about):
    known = ties(web)
    told = by_ties(web, known[one], known[other], about)
    if told is None:
        raise NoWeb("these ties, crossed so, make no web")
    return told


# Which of two ties is the first one makes no difference.
def all_crossed(web):
    known = ties(web)
    told = []
    for place, second in enumerate(known):
        for first in known[:place]:
            told.append(by_ties(web, first, second, 0))
            told.append(by_ties(web, first, second, 1))
    return [other for other in told if other is not None]


def put_right(web, room, story):
    return sorted(set([other for other in [web] + all_crossed(web) if fits(other, room, story)]))
