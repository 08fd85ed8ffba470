"""A history: deeds of a town that are noted, and can be taken back one behind another."""

from taglook.errors import NothingBack


class History:
    def __init__(self, town):
        self.town = town
        # Of each deed that stands what takes it back.
        self.notes = []

    def add(self, name, elders, at=None):
        touched = self.town.add(name, elders, at)
        self.notes.append(("drop", name))
        return touched

    def drop(self, name):
        elders = self.town.elders_of(name)
        place = self.town.kinds().index(name)
        touched = self.town.drop(name)
        self.notes.append(("add", name, elders, place))
        return touched

    def shift(self, turns, facts):
        # Asked ahead, for what was there can be told only of what is not refused.
        self.town.may_shift(turns, facts)
        turns_back = [(name, self.town.elders_of(name)) for name, elders in turns]
        facts_back = [(kind, word, self.town.known(kind, word)) for kind, word, one in facts]
        touched = self.town.shift(turns, facts)
        self.notes.append(("shift", turns_back, facts_back))
        return touched

    def back(self):
        if not self.notes:
            raise NothingBack()
        touched = self.take_back(self.notes[-1])
        self.notes.pop()
        return touched

    def done(self):
        return len(self.notes)

    def take_back(self, note):
        if note[0] == "drop":
            return self.town.drop(note[1])
        if note[0] == "add":
            return self.town.add(note[1], note[2], min(note[3], len(self.town.kinds())))
        return self.town.shift(note[1], note[2])
