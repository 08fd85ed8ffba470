"""Sites: places of asking for one word, which keep what they told and by which tag."""

from taglook.errors import NoName, NoRoom
from taglook.names import is_name, is_whole

MOST_ROOM = 8


class Site:
    def __init__(self, town, word, room=4, start=None):
        check_place(word, room)
        if start is not None and not is_name(start):
            raise NoName(start)
        self.town = town
        self.word = word
        self.room = room
        self.start = start
        self.entries = []

    def ask(self, kind):
        tag = self.town.tag(kind)
        entry = entry_of(self.entries, kind)
        if entry is not None and entry[2] == tag:
            paper = entry[1]
            way = "same"
        else:
            paper = self.town.look(kind, self.word, self.start)
            way = "held" if entry is not None and entry[1] == paper else "anew"
        self.entries = with_last(self.entries, (kind, paper, tag), self.room)
        return (paper, way)

    def kept(self):
        return list(self.entries)


def check_place(word, room):
    if not is_name(word):
        raise NoName(word)
    if not is_whole(room, 1, MOST_ROOM):
        raise NoRoom(room)


# Entries are tuples; the first thing of each tells what it is kept for.
def entry_of(entries, key):
    for entry in entries:
        if entry[0] == key:
            return entry
    return None


def with_last(entries, entry, room):
    others = [other for other in entries if other[0] != entry[0]]
    return (others + [entry])[-room:]
