import random
import re
import unittest

from stonewalker.errors import BadRow, WebError
from stonewalker.folding import folded
from stonewalker.home import way_home
from stonewalker.kinds import kinds
from stonewalker.meeting import meeting
from stonewalker.numbering import same_web, told_from
from stonewalker.pairing import pairing
from stonewalker.parting import parting, parting_with_stone
from stonewalker.sheet import run
from stonewalker.stories import story_of
from stonewalker.webs import gone, seen, ties
from tests import samples
from tests.samples import LONE, LOOP, MIXED, SELF_DOOR, TWICE, chance_way, line, ring

ROW = "web row\nroom 1.0\nroom 0.0 2.0\nroom 1.1\n"
NUMBER = r"(?:0|[1-9][0-9]{0,5})"
NAME = r"[a-z]{1,8}"
WAY = rf"(?:-|{NUMBER}(?:,{NUMBER})*)"
END = rf"{NUMBER}\.{NUMBER}"
ASKS = {"ties": "N", "seen": "NRW", "told": "NR", "same": "NRNR", "part": "NRNR", "stone": "NRNR", "pairs": "NRNR",
        "kinds": "N", "fold": "N", "map": "NR", "walk": "NRW", "home": "NRW", "meet": "NRR"}
ODD_ROWS = ["room", "web", "web a", "room 0.0", "rooms", "roo", "ties", "ties a", " ", "room ", " room 0.0",
            "room  0.0", "web  a", "Web a", "room 0.0 ", "meet a 0", "\t", "-"]
ODD_WORDS = ["0", "00", "01", "7", "1.0", "0.0", "-", "a", "", "0,1", "1000000", "999999", "abcdefghi", "room", "web",
             "1.", "0.0.0", "+1", "1_0", "\u0661", "\u00e9", "0,-", ",0"]
PATTERNS = {"N": f"({NAME})", "R": f"({NUMBER})", "W": f"({WAY})"}


def plain_read(text):
    """The webs, and the asks as they are written; or the row that is refused, as a number."""
    rows = text.split("\n")
    webs, asks, begun = {}, [], None

    def ended():
        name, first, rooms = begun
        if not samples.plain_is_web(tuple(rooms)):
            return first
        webs[name] = tuple(rooms)
        return None

    for place, row in enumerate(rows):
        if row == "":
            continue
        if re.match(r"room(?: |\Z)", row):
            if begun is None or not re.fullmatch(rf"room(?: {END})*", row):
                return place
            begun[2].append(tuple(tuple(int(part) for part in end.split(".")) for end in row.split(" ")[1:]))
            continue
        if begun is not None:
            wrong = ended()
            if wrong is not None:
                return wrong
            begun = None
        found = re.fullmatch(rf"web ({NAME})", row)
        if found:
            if asks or found[1] in webs:
                return place
            begun = (found[1], place, [])
        elif not plain_ask(webs, row):
            return place
        else:
            asks.append(row)
    if begun is not None:
        wrong = ended()
        if wrong is not None:
            return wrong
    return (webs, asks) if webs else len(rows)


def plain_ask(webs, row):
    """Whether a row is an ask of what is there."""
    word = row.split(" ")[0]
    if word not in ASKS:
        return False
    found = re.fullmatch(" ".join([word] + [PATTERNS[part] for part in ASKS[word]]), row)
    if not found:
        return False
    name = None
    for part, given in zip(ASKS[word], found.groups()):
        if part == "N" and given not in webs or part == "R" and int(given) >= len(webs[name]):
            return False
        name = given if part == "N" else name
    return True


def web_words(web):
    return " ".join(",".join(f"{room}.{door}" for room, door in ends) or "-" for ends in web)


def way_words(way):
    return ",".join(map(str, way)) or "-"


def pair_words(pairs):
    return " ".join(f"{one}:{other}" for one, other in pairs)


def plain_answer(webs, row):
    """The answer, by what the functions tell."""
    word, *given = row.split(" ")
    given = [webs[text] if part == "N" else int(text) if part == "R"
             else tuple(int(door) for door in text.split(",") if door != "-")
             for part, text in zip(ASKS[word], given)]
    if word in ("seen", "walk", "home") and gone(*given) is None:
        return "no way"
    if word == "ties":
        return " ".join("%d.%d-%d.%d" % (one + other) for one, other in ties(*given)) or "-"
    if word == "seen":
        doors, *steps = seen(*given)
        return " ".join([str(doors)] + [f"{come}:{many}" for come, many in steps])
    if word == "same":
        found = same_web(*given)
        return "no" if found is None else way_words(found)
    if word in ("part", "stone"):
        found = {"part": parting, "stone": parting_with_stone}[word](*given)
        return "alike" if found is None else "way " + way_words(found)
    if word == "pairs":
        found = pairing(*given)
        return "apart" if found is None else pair_words(found)
    if word == "kinds":
        return " ".join(",".join(map(str, kind)) for kind in kinds(*given))
    if word == "fold":
        return web_words(folded(*given))
    if word in ("told", "map"):
        return web_words(told_from(*given))
    if word == "walk":
        return str(gone(*given)[0])
    if word == "home":
        return way_words(way_home(given[0], story_of(*given)))
    told, found = meeting(*given)
    return f"step {found}" if told == "step" else "never " + pair_words(found)


def web_rows(name, web):
    return ["web " + name] + [" ".join(["room"] + [f"{room}.{door}" for room, door in ends]) for ends in web]


def ask_rows(webs, chance, many):
    """Asks by chance of the webs, within the bounds of what is asked."""
    told = []
    while len(told) < many:
        word = chance.choice(list(ASKS))
        parts, web = [], None
        for part in ASKS[word]:
            if part == "N":
                parts.append(chance.choice(list(webs)))
                web = webs[parts[-1]]
            elif part == "R":
                parts.append(str(chance.randrange(len(web))))
            else:
                way = chance_way(web, int(parts[-1]), chance.randrange(7), chance.randrange(999))
                way += (chance.randrange(7),) if chance.random() < 0.2 else ()
                parts.append(way_words(way))
        if len(web) <= {"home": 6, "meet": 8}.get(word, 24):
            told.append(" ".join([word] + parts))
    return told


def chance_sheet(seed):
    """A sheet that is written right."""
    chance = random.Random(seed)
    webs = {}
    for _ in range(chance.randrange(1, 4)):
        name = "".join(chance.choice("abcwebrom") for _ in range(chance.randrange(1, 9)))
        webs[name] = chance.choice(samples.NAMED + samples.SMALL)
    rows = [row for name, web in webs.items() for row in web_rows(name, web)]
    rows += ask_rows(webs, chance, chance.randrange(8))
    for _ in range(chance.randrange(4)):
        rows.insert(chance.randrange(len(rows) + 1), "")
    return "\n".join(rows)


def spoilt_sheet(text, chance):
    """The sheet with some rows or signs of it put for others."""
    for _ in range(chance.randrange(1, 3)):
        move = chance.randrange(8)
        rows = text.split("\n")
        row, other = chance.randrange(len(rows)), chance.randrange(len(rows))
        if move == 0:
            rows[row], rows[other] = rows[other], rows[row]
        elif move == 1:
            rows.insert(row, rows[other])
        elif move == 2:
            rows.pop(row)
        elif move == 3:
            rows[row] = chance.choice(ODD_ROWS)
        elif move == 4:
            words = rows[row].split(" ")
            words[chance.randrange(len(words))] = chance.choice(ODD_WORDS)
            rows[row] = " ".join(words)
        else:
            place = chance.randrange(len(text) + 1)
            sign = chance.choice(["", " ", "\n", "0", "1", "9", ".", ",", "-", "a", "r", "W", "\t", "\r", "~"])
            rows = (text[:place] + sign + text[place + chance.randrange(2):]).split("\n")
        text = "\n".join(rows)
    return text


class SheetCase(unittest.TestCase):
    def refused(self, text, row):
        with self.assertRaises(BadRow) as found:
            run(text)
        self.assertIs(type(found.exception), BadRow)
        self.assertEqual(BadRow.__bases__, (WebError,))
        self.assertEqual(found.exception.row, row, text)
        self.assertIs(type(found.exception.row), int)

    def told(self, web, ask):
        """The one answer of a sheet with that web, under the name a."""
        return run("\n".join(web_rows("a", web) + [ask]))[0]


class AnswersTest(SheetCase):
    def test_ties(self):
        self.assertEqual(self.told(LONE, "ties a"), "-")
        self.assertEqual(self.told(SELF_DOOR, "ties a"), "0.0-0.0")
        self.assertEqual(self.told(line(3), "ties a"), "0.0-1.0 1.1-2.0")

    def test_seen(self):
        self.assertEqual(self.told(line(3), "seen a 0 0,1"), "1 0:2 0:1")
        self.assertEqual(self.told(line(3), "seen a 1 -"), "2")
        self.assertEqual(self.told(LONE, "seen a 0 -"), "0")
        self.assertEqual(self.told(line(3), "seen a 0 0,2"), "no way")
        self.assertEqual(self.told(LONE, "seen a 0 0"), "no way")
        self.assertEqual(self.told(LONE, "seen a 0 999999"), "no way")

    def test_told(self):
        self.assertEqual(self.told(LONE, "told a 0"), "-")
        self.assertEqual(self.told(line(3), "told a 1"), "1.0,2.0 0.0 0.1")

    def test_same(self):
        self.assertEqual(self.told(line(3), "same a 0 a 0"), "0,1,2")
        self.assertEqual(self.told(line(3), "same a 0 a 2"), "no")
        self.assertEqual(self.told(ring(3), "same a 0 a 2"), "2,0,1")
        self.assertEqual(self.told(LONE, "same a 0 a 0"), "0")

    def test_part_and_stone(self):
        self.assertEqual(self.told(line(3), "part a 0 a 1"), "way -")
        self.assertEqual(self.told(line(3), "part a 0 a 2"), "way 0")
        self.assertEqual(self.told(line(3), "part a 2 a 2"), "alike")
        self.assertEqual(self.told(line(3), "stone a 0 a 1"), "way -")
        self.assertEqual(self.told(ring(3), "stone a 0 a 1"), "alike")
        rings = "\n".join(web_rows("a", ring(2)) + web_rows("b", ring(3)))
        self.assertEqual(run(rings + "\npart a 0 b 1\nstone a 0 b 1\nstone b 0 a 0"), ["alike", "way 0,0", "way 0,0"])

    def test_pairs(self):
        self.assertEqual(self.told(line(3), "pairs a 0 a 1"), "apart")
        self.assertEqual(self.told(line(2), "pairs a 0 a 1"), "0:1 1:0")
        self.assertEqual(self.told(LONE, "pairs a 0 a 0"), "0:0")

    def test_kinds(self):
        self.assertEqual(self.told(ring(3), "kinds a"), "0,1,2")
        self.assertEqual(self.told(line(3), "kinds a"), "0 1 2")
        self.assertEqual(self.told(TWICE, "kinds a"), "0,1")
        self.assertEqual(self.told(samples.sheeted_whole(MIXED, 2), "kinds a"), "0,3 1,4 2,5")

    def test_fold(self):
        self.assertEqual(self.told(LONE, "fold a"), "-")
        self.assertEqual(self.told(ring(3), "fold a"), "0.1,0.0")
        self.assertEqual(self.told(line(3), "fold a"), "1.0 0.0,2.0 1.1")

    def test_map(self):
        self.assertEqual(self.told(LONE, "map a 0"), "-")
        self.assertEqual(self.told(line(3), "map a 1"), "1.0,2.0 0.0 0.1")
        self.assertEqual(self.told(ring(3), "map a 2"), "1.1,2.0 2.1,0.0 0.1,1.0")

    def test_walk(self):
        self.assertEqual(self.told(line(3), "walk a 0 0,1"), "2")
        self.assertEqual(self.told(line(3), "walk a 1 -"), "1")
        self.assertEqual(self.told(line(3), "walk a 0 1"), "no way")

    def test_home(self):
        self.assertEqual(self.told(line(3), "home a 0 0,1"), "0,0")
        self.assertEqual(self.told(line(3), "home a 0 -"), "-")
        self.assertEqual(self.told(ring(4), "home a 3 0,0,0"), "0")
        self.assertEqual(self.told(ring(4), "home a 3 0,0,0,0"), "-")
        self.assertEqual(self.told(line(3), "home a 0 0,1,1"), "no way")

    def test_meet(self):
        self.assertEqual(self.told(LONE, "meet a 0 0"), "step 0")
        self.assertEqual(self.told(ring(3), "meet a 0 1"), "never 0:1 1:2 2:0")
        self.assertEqual(self.told(TWICE, "meet a 1 0"), "never 0:1 1:0")
        self.assertEqual(self.told(line(3), "meet a 0 2"), f"step {meeting(line(3), 0, 2)[1]}")
        self.assertNotEqual(self.told(line(3), "meet a 0 2"), "step 0")

    def test_several_asks_in_order(self):
        self.assertEqual(run(ROW + "ties row\nkinds row\nties row\nwalk row 2 0"),
                         ["0.0-1.0 1.1-2.0", "0 1 2", "0.0-1.0 1.1-2.0", "1"])

    def test_several_webs(self):
        text = ROW + "web loop\nroom 0.1 0.0\nweb lone\nroom\nties lone\nties loop\nties row\nsame row 0 loop 0\n"
        self.assertEqual(run(text), ["-", "0.0-0.1", "0.0-1.0 1.1-2.0", "no"])
        self.assertEqual(run(text + "seen loop 0 0\ntold row 2"), run(text) + ["2 1:2", "1.1 2.0,0.0 1.0"])

    def test_names_that_are_words(self):
        text = "web web\nroom\nweb room\nroom 0.0\nweb ties\nroom 0.1 0.0\nties web\nties room\nties ties\nkinds ties"
        self.assertEqual(run(text), ["-", "0.0-0.0", "0.0-0.1", "0"])
        self.assertEqual(run("web abcdefgh\nroom\nties abcdefgh"), ["-"])

    def test_without_asks(self):
        self.assertEqual(run(ROW), [])
        self.assertEqual(run("web a\nroom"), [])
        self.assertEqual(run("web a\nroom\nweb b\nroom 0.0"), [])
        self.assertIs(type(run(ROW)), list)

    def test_empty_rows_anywhere(self):
        self.assertEqual(run("\n\nweb a\n\nroom 1.0\n\n\nroom 0.0\n\n\nties a\n\nkinds a\n\n"), ["0.0-1.0", "0,1"])
        self.assertEqual(run("\nweb a\nroom 1.0\n\nroom 0.0\n"), [])
        self.assertEqual(run("web a\n\nroom\n\nweb b\nroom\n\nfold b"), ["-"])

    def test_all_asks_by_chance(self):
        asked = {}
        for seed in range(250):
            text = chance_sheet(seed)
            webs, asks = plain_read(text)
            told = run(text)
            self.assertEqual(told, [plain_answer(webs, ask) for ask in asks])
            self.assertTrue(all(type(answer) is str for answer in told))
            for ask, answer in zip(asks, told):
                form = re.sub("[0-9]+", "0", answer).split(" ")[0]
                asked.setdefault(ask.split(" ")[0], set()).add(form)
        self.assertEqual(set(asked), set(ASKS))
        self.assertLessEqual({"no", "alike", "apart", "way", "step", "never"}, set().union(*asked.values()))
        for word in ("seen", "walk", "home", "same"):
            self.assertIn("no", asked[word])

    def test_to_the_bounds(self):
        rows = [row for place, web in enumerate(samples.GREAT) for row in web_rows("abcde"[place], web)]
        webs = dict(zip("abcde", samples.GREAT))
        asks = ask_rows(webs, random.Random(3), 200 - len(rows))
        way = way_words(chance_way(samples.GREAT_APART, 7, 60, 1))
        asks[:3] = ["seen b 7 " + way, "walk b 7 " + way, "map c 23"]
        self.assertEqual(len(rows + asks), 200)
        self.assertEqual(run("\n".join(rows + asks)), [plain_answer(webs, ask) for ask in asks])

    def test_asked_once_more(self):
        text = chance_sheet(5) + "\n"
        one, other = run(text), run(text)
        self.assertEqual(one, other)
        one.clear()
        self.assertEqual(run(text), other)


class BadRowTest(SheetCase):
    def test_nothing_but_empty_rows(self):
        self.refused("", 1)
        self.refused("\n", 2)
        self.refused("\n\n\n", 4)

    def test_blanks(self):
        for row in [" ties row", "ties row ", "ties  row", " ", "  ", "seen row 0  0", "seen row 0 0 ", "ties\trow",
                    "ties row\r", "ties\u00a0row"]:
            self.refused(ROW + row, 4)
        for row in ["web  row", " web row", "web row "]:
            self.refused(row + "\nroom", 0)
        for row in ["room  0.0", "room ", "room 0.0 ", "room 0.0  0.0"]:
            self.refused("web a\n" + row, 1)

    def test_numbers(self):
        for number in ["00", "01", "007", "1000000", "0000000", "+1", "-1", "1.0", "a", "", "\u0661", "\u00b2", "1_0",
                       "0x1"]:
            self.refused(ROW + "told row " + number, 4)
            self.refused(ROW + "seen row 0 " + number, 4)
            self.refused(ROW + "seen row 0 0," + number, 4)
            self.refused("web a\nroom 0." + number, 1)
            self.refused("web a\nroom " + number + ".0", 1)
        self.assertEqual(run(ROW + "seen row 0 999999"), ["no way"])
        # Six figures are a number, seven are none: of these the web is refused, of those the row.
        self.refused("web a\nroom 999999.0", 0)
        self.refused("web a\nroom 1000000.0", 1)

    def test_ends(self):
        for end in ["0", "0.", ".0", ".", "0.0.0", "0,0", "0.0,0.0", "-", "0:0", "0. 0"]:
            self.refused("web a\nroom " + end, 1)
            self.refused("web a\nroom 0.0 " + end, 1)

    def test_ways(self):
        for way in ["0,", ",0", ",", "0,,0", "--", "-0", "0-", "0,-", "-,0", "0.0", "0;0", "0, 0", "none"]:
            for word in ("seen", "walk", "home"):
                self.refused(ROW + f"{word} row 0 {way}", 4)

    def test_names(self):
        for name in ["abcdefghi", "A", "aB", "a1", "1", "a-b", "a.b", "", "\u00e9", "a_b", "-"]:
            self.refused(f"web {name}\nroom", 0)
            self.refused(ROW + f"web {name}\nroom", 4)
            self.refused(ROW + f"ties {name}", 4)

    def test_words(self):
        for row in ["tie row", "Ties row", "tiesrow", "rooms", "webs a", "row", "0", "-", "ask", "ties,row",
                    "seen_ row 0 -"]:
            self.refused(ROW + row, 4)
            self.refused(row, 0)

    def test_too_many_and_too_few_words(self):
        right = {"N": "row", "R": "1", "W": "0"}
        for word, form in ASKS.items():
            words = [word] + [right[part] for part in form]
            self.assertEqual(len(run(ROW + " ".join(words))), 1)
            self.refused(ROW + " ".join(words + ["0"]), 4)
            self.refused(ROW + " ".join(words + ["row"]), 4)
            for many in range(1, len(words)):
                self.refused(ROW + " ".join(words[:many]), 4)
        self.refused("web", 0)
        self.refused("web a b\nroom", 0)
        self.refused("web a room", 0)

    def test_names_and_rooms_that_are_not_there(self):
        right = {"N": "row", "R": "1", "W": "0"}
        for word, form in ASKS.items():
            words = [right[part] for part in form]
            for place, part in enumerate(form):
                wrong = {"N": ["rows", "ro", "a"], "R": ["3", "4", "999999", "-"], "W": []}[part]
                for other in wrong:
                    self.refused(ROW + "\n" + " ".join([word] + words[:place] + [other] + words[place + 1:]), 5)
        # A room is one of the web that is named ahead of it.
        text = ROW + "web lone\nroom\n"
        self.assertEqual(run(text + "part row 2 lone 0"), ["way -"])
        self.refused(text + "part lone 2 row 0", 6)
        self.refused(text + "part row 0 lone 2", 6)
        self.refused(text + "meet lone 0 1", 6)

    def test_rooms_that_cannot_stand_there(self):
        self.refused("room", 0)
        self.refused("\n\nroom 0.0\nweb a\nroom", 2)
        self.refused(ROW + "ties row\nroom", 5)
        self.refused(ROW + "ties row\n\nroom 0.0", 6)

    def test_webs_that_cannot_stand_there(self):
        self.refused(ROW + "ties row\nweb a\nroom", 5)
        self.refused(ROW + "ties row\nweb a\n", 5)
        self.refused(ROW + "web row\nroom", 4)
        self.refused("web a\nroom\nweb b\nroom\n\nweb a\nroom", 5)

    def test_asks_ahead_of_any_web(self):
        self.refused("ties row\n" + ROW, 0)
        self.refused("\nties row", 1)

    def test_rooms_that_are_no_web(self):
        self.refused("web a", 0)
        self.refused("\nweb a\n\n", 1)
        self.refused("web a\nroom 0.1", 0)
        self.refused("web a\nroom 1.0", 0)
        self.refused("web a\nroom\nroom", 0)
        self.refused("web a\nroom 0.0 1.0\nroom 0.0", 0)
        self.refused(ROW + "\nweb a\nroom 1.0\n\nroom 0.1\n", 5)

    def test_a_web_is_looked_at_ahead_of_the_next_row(self):
        for row in ["web b", "web a", "web  b", "ties a", "ties b", "what", " ", " room 0.0", "rooms", "room,0.0",
                    "room\t0.0", "roo", "Room 0.0", "0", "room. 0.0", "\troom"]:
            self.refused("web a\nroom 1.0\n" + row, 0)
            self.refused("web a\nroom 1.0\n\n\n" + row + "\nroom 0.0", 0)
            self.refused("\nweb a\n" + row, 1)
        # A row that begins with the word is refused itself.
        for row in ["room  0.0", "room 0", "room ", "room room", "room 0.00", "room \t"]:
            self.refused("web a\nroom 1.0\n" + row, 2)
            self.refused("web a\nroom 1.0\n\n" + row + "\nties a", 3)

    def test_the_last_web_is_looked_at_behind_all_rows(self):
        self.refused("web a\nroom 1.0\n\n", 0)
        self.refused("web a\nroom 1.0\nroom 0", 2)
        self.refused("web a\nroom\nweb b\nroom 1.0\n\n", 2)

    def test_the_first_of_several(self):
        self.refused(ROW + "ties a\nties b\n", 4)
        self.refused(ROW + "ties row\nties b\nweb c\n", 5)
        self.refused("web a\nroom 0\nweb B", 1)
        self.refused("web a\nroom 1.0\nweb b\nroom x", 0)
        self.refused("web a\nroom\nweb b\nroom x\nwhat", 3)
        self.refused("room\nweb a\nroom 1.0", 0)
        self.refused("web a\nroom\nweb a\nroom 1.0\nties c", 2)

    def test_ahead_of_all_answers(self):
        self.refused(ROW + "ties row\nkinds row\nwalk row 0 0\nties rows", 7)

    def test_spoilt_sheets(self):
        rows = {}
        for seed in range(4000):
            chance = random.Random(seed)
            text = spoilt_sheet(chance_sheet(seed % 200), chance)
            wanted = plain_read(text)
            rows[type(wanted)] = rows.get(type(wanted), 0) + 1
            if type(wanted) is int:
                self.refused(text, wanted)
            else:
                self.assertEqual(len(run(text)), len(wanted[1]))
        self.assertGreater(min(rows.values()), 250)


if __name__ == "__main__":
    unittest.main()
