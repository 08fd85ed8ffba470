"""Places of asking of things: what a thing's kind and its own words tell of one word."""

from taglook.sites import check_place, entry_of, with_last


class ThingSite:
    def __init__(self, things, word, room=4):
        check_place(word, room)
        self.things = things
        self.word = word
        self.room = room
        self.entries = []

    def ask(self, name):
        key = (self.things.kind_of(name), self.things.shape_of(name))
        tag = self.things.town.tag(key[0])
        entry = entry_of(self.entries, key)
        if entry is not None and entry[3] == tag:
            answer = entry[1]
            paper = entry[2]
            way = "same"
        else:
            paper = self.things.town.look(key[0], self.word)
            answer = self.answer_by(key[1], paper)
            way = "held" if entry is not None and entry[1:3] == (answer, paper) else "anew"
        self.entries = with_last(self.entries, (key, answer, paper, tag), self.room)
        return (answer, way)

    def answer_by(self, shape, paper):
        slot = self.things.shapes.slot_of(shape, self.word)
        # What a kind has firmly goes ahead of an own word.
        if slot is None or paper[2] == 2:
            return ("kind", paper)
        return ("own", slot)

    def kept(self):
        return list(self.entries)


def value_of(things, name, answer):
    if answer[0] == "own":
        return things.value_at(name, answer[1])
    return answer[1][1]
