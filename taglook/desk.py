"""A desk: it is told rows of text, one at a time, and answers each with a text."""

from taglook.asks import ThingSite, value_of
from taglook.errors import NoRow, NoSite, Twice
from taglook.foretell import fallen, foretold
from taglook.forms import values_in
from taglook.history import History
from taglook.sites import Site
from taglook.texts import read_row, show_names, show_paper
from taglook.things import Things
from taglook.town import Town

DONE = "ok"


def add_kind(desk, values):
    at = values[2]
    if at is not None and not 0 <= at <= len(desk.town.kinds()):
        raise NoRow(3)
    return show_names(desk.history.add(values[0], values[1], at))


def drop_kind(desk, values):
    return show_names(desk.history.drop(values[0]))


def shift_town(desk, values):
    return show_names(desk.history.shift(turns_among(values[0]), facts_among(values[0])))


def take_back(desk, values):
    return show_names(desk.history.back())


def turns_among(parts):
    return [part for part in parts if len(part) == 2]


def facts_among(parts):
    return [part for part in parts if len(part) == 3]


def tell_store(desk, values):
    desk.store[(values[0], values[1])] = values[2]
    return DONE


def make_site(desk, values):
    check_free(desk, values[0])
    desk.sites[values[0]] = Site(desk.town, values[1], values[2], values[3])
    return DONE


def make_stand(desk, values):
    check_free(desk, values[0])
    desk.stands[values[0]] = ThingSite(desk.things, values[1], values[2])
    return DONE


def check_free(desk, name):
    if name in desk.sites or name in desk.stands:
        raise Twice(name)


def make_thing(desk, values):
    desk.things.make(values[0], values[1])
    return DONE


def put_word(desk, values):
    desk.things.put(values[0], values[1], values[2])
    return DONE


def take_word(desk, values):
    desk.things.take(values[0], values[1])
    return DONE


def move_thing(desk, values):
    desk.things.move(values[0], values[1])
    return DONE


def lose_thing(desk, values):
    desk.things.drop(values[0])
    return DONE


def look_along(desk, values):
    return show_paper(desk.town.look(values[0], values[1], values[2]))


def ask_place(desk, values):
    if values[0] in desk.stands:
        return ask_stand(desk, desk.stands[values[0]], values[1])
    told = site_called(desk, values[0]).ask(values[1])
    return in_row([told[1], show_paper(told[0])])


def ask_stand(desk, stand, name):
    told = stand.ask(name)
    value = value_of(desk.things, name, told[0])
    return in_row([told[1], show_answer(told[0]), show_or_none(value)])


def tell_kept(desk, values):
    if values[0] in desk.stands:
        return in_lines([
            in_row([key[0], key[1], show_answer(answer), show_paper(paper), tag])
            for key, answer, paper, tag in desk.stands[values[0]].kept()
        ])
    kept = site_called(desk, values[0]).kept()
    return in_lines([in_row([kind, show_paper(paper), tag]) for kind, paper, tag in kept])


def tell_fallen(desk, values):
    return in_lines([in_row(one) for one in fallen(site_called(desk, values[0]))])


def foretell_fallen(desk, values):
    site = site_called(desk, values[0])
    return in_lines([in_row(one) for one in foretold(site, turns_among(values[1]), facts_among(values[1]))])


def site_called(desk, name):
    if name not in desk.sites:
        raise NoSite(name)
    return desk.sites[name]


def tell_kinds(desk, values):
    return show_names(desk.town.kinds())


def tell_things(desk, values):
    return show_names(desk.things.names())


def tell_elders(desk, values):
    return show_names(desk.town.elders_of(values[0]))


def tell_line(desk, values):
    return show_names(desk.town.line(values[0]))


def tell_heirs(desk, values):
    return show_names(desk.town.heirs(values[0]))


def tell_rows(desk, values):
    return in_lines([show_names(row) for row in desk.town.house.rows_of(values[0])])


def tell_tag(desk, values):
    return str(desk.town.tag(values[0]))


def tell_deeds(desk, values):
    return str(desk.town.deeds())


def tell_done(desk, values):
    return str(desk.history.done())


def tell_known(desk, values):
    return show_or_none(desk.town.known(values[0], values[1]))


def tell_reads(desk, values):
    return in_row([f"{kind}.{word}" for kind, word in desk.town.reads()])


def tell_own(desk, values):
    return in_row([f"{word}={value}" for word, value in desk.things.own(values[0]).items()])


def show_answer(answer):
    if answer[0] == "kind":
        return show_paper(answer[1])
    slot = answer[1]
    return f"own={slot}"


def show_or_none(value):
    return "-" if value is None else str(value)


def in_row(parts):
    return " ".join([str(part) for part in parts])


def in_lines(rows):
    return "\n".join(rows)


ANSWERS = {
    "kind": add_kind, "drop": drop_kind, "shift": shift_town, "back": take_back,
    "store": tell_store, "site": make_site, "stand": make_stand,
    "thing": make_thing, "put": put_word, "take": take_word, "move": move_thing, "lose": lose_thing,
    "look": look_along, "ask": ask_place, "kept": tell_kept, "fallen": tell_fallen, "foretold": foretell_fallen,
    "kinds": tell_kinds, "things": tell_things, "elders": tell_elders, "line": tell_line, "heirs": tell_heirs,
    "rows": tell_rows, "tag": tell_tag, "deeds": tell_deeds, "done": tell_done, "known": tell_known,
    "reads": tell_reads, "own": tell_own,
}


class Desk:
    def __init__(self):
        store = {}
        self.store = store
        self.town = Town(lambda kind, word: store.get((kind, word), 0))
        self.history = History(self.town)
        self.things = Things(self.town)
        self.sites = {}
        self.stands = {}

    def say(self, row):
        words = read_row(row)
        values = values_in(words)
        return ANSWERS[words[0]](self, values)
