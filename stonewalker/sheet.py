"""Sheets: texts of webs and of asks about them."""

from stonewalker.asks import answer, form_of
from stonewalker.errors import BadRow
from stonewalker.webs import is_web
from stonewalker.words import end_in, is_name, number_in, way_in


def room_in(web, word):
    number = number_in(word)
    return number if number is not None and number < len(web) else None


# What the words behind an ask's word give, in the order of the form; None where they are not so written,
# or name what isn't there.
def given_by(webs, form, words):
    if len(words) != len(form):
        return None
    given = []
    web = None
    for part, word in zip(form, words):
        if part == "name":
            web = webs.get(word)
            given.append(web)
        elif part == "room":
            given.append(room_in(web, word))
        else:
            given.append(way_in(word))
        if given[-1] is None:
            return None
    return given


# Keeps the webs that are read to their end, the one that is being read, and the asks.
class Reader:
    def __init__(self):
        self.webs = {}
        self.asks = []
        self.name = None
        self.first_row = 0
        self.begun = []

    def look_at(self, row, words):
        if words[0] == "room":
            self.read_room(row, words)
            return
        # A web ends ahead of whatever row isn't one of its rooms.
        self.end_web()
        if words[0] == "web":
            self.begin_web(row, words)
        else:
            self.read_ask(row, words)

    def read_room(self, row, words):
        ends = [end_in(word) for word in words[1:]]
        if self.name is None or None in ends:
            raise BadRow("no room can stand here, or it isn't written so", row)
        self.begun.append(tuple(ends))

    def begin_web(self, row, words):
        if self.asks or len(words) != 2 or not is_name(words[1]) or words[1] in self.webs:
            raise BadRow("no web can begin here, its name was there, or it isn't written so", row)
        self.name = words[1]
        self.first_row = row
        self.begun = []

    def end_web(self):
        if self.name is None:
            return
        web = tuple(self.begun)
        if not is_web(web):
            raise BadRow("these rooms are no web", self.first_row)
        self.webs[self.name] = web
        self.name = None

    def read_ask(self, row, words):
        form = form_of(words[0])
        given = None if form is None else given_by(self.webs, form, words[1:])
        if given is None:
            raise BadRow("this is no ask, or of a name or room that isn't there", row)
        self.asks.append((words[0], given))


def read(text):
    rows = text.split("\n")
    reader = Reader()
    for row, written in enumerate(rows):
        if written != "":
            reader.look_at(row, written.split(" "))
    reader.end_web()
    if not reader.webs:
        raise BadRow("all rows are empty", len(rows))
    return reader


def run(text):
    return [answer(word, given) for word, given in read(text).asks]
