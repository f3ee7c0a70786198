"""Asks of a sheet: what each is given, and how its answer is written."""

from stonewalker.folding import folded
from stonewalker.home import way_home
from stonewalker.kinds import kinds
from stonewalker.meeting import meeting
from stonewalker.numbering import same_web, told_from
from stonewalker.pairing import pairing
from stonewalker.parting import parting, parting_with_stone
from stonewalker.stonemaps import mapped
from stonewalker.stories import story_of
from stonewalker.walker import Walker
from stonewalker.webs import gone, seen, ties
from stonewalker.words import couple_text, numbers_text, pairs_text, ties_text, web_text

NO_WAY = "no way"

# What stands behind the word of an ask: a room is one of the web whose name stands ahead of it.
FORMS = {
    "ties": ("name",),
    "seen": ("name", "room", "way"),
    "told": ("name", "room"),
    "same": ("name", "room", "name", "room"),
    "part": ("name", "room", "name", "room"),
    "stone": ("name", "room", "name", "room"),
    "pairs": ("name", "room", "name", "room"),
    "kinds": ("name",),
    "fold": ("name",),
    "map": ("name", "room"),
    "walk": ("name", "room", "way"),
    "home": ("name", "room", "way"),
    "meet": ("name", "room", "room"),
}


def ties_answer(given):
    return ties_text(ties(given[0]))


def seen_answer(given):
    told = seen(given[0], given[1], given[2])
    if told is None:
        return NO_WAY
    return " ".join([str(told[0])] + [couple_text(step, ":") for step in told[1:]])


def told_answer(given):
    return web_text(told_from(given[0], given[1]))


def same_answer(given):
    numbers = same_web(given[0], given[1], given[2], given[3])
    return "no" if numbers is None else numbers_text(numbers)


def way_answer(way):
    return "alike" if way is None else "way " + numbers_text(way)


def part_answer(given):
    return way_answer(parting(given[0], given[1], given[2], given[3]))


def stone_answer(given):
    return way_answer(parting_with_stone(given[0], given[1], given[2], given[3]))


def pairs_answer(given):
    pairs = pairing(given[0], given[1], given[2], given[3])
    return "apart" if pairs is None else pairs_text(pairs)


def kinds_answer(given):
    return " ".join([numbers_text(kind) for kind in kinds(given[0])])


def fold_answer(given):
    return web_text(folded(given[0]))


def map_answer(given):
    return web_text(mapped(Walker(given[0], given[1], 1)))


def walk_answer(given):
    end = gone(given[0], given[1], given[2])
    return NO_WAY if end is None else str(end[0])


def home_answer(given):
    if gone(given[0], given[1], given[2]) is None:
        return NO_WAY
    return numbers_text(way_home(given[0], story_of(given[0], given[1], given[2])))


def meet_answer(given):
    told = meeting(given[0], given[1], given[2])
    return told[0] + " " + (str(told[1]) if told[0] == "step" else pairs_text(told[1]))


ANSWERS = {
    "ties": ties_answer,
    "seen": seen_answer,
    "told": told_answer,
    "same": same_answer,
    "part": part_answer,
    "stone": stone_answer,
    "pairs": pairs_answer,
    "kinds": kinds_answer,
    "fold": fold_answer,
    "map": map_answer,
    "walk": walk_answer,
    "home": home_answer,
    "meet": meet_answer,
}


# What stands behind that word, None where it is no ask's.
def form_of(word):
    return FORMS.get(word)


def answer(word, given):
    return ANSWERS[word](given)
