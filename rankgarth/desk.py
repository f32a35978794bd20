"""The desk: games, purse games and wishes by names, and one play, all told and asked by rows."""

from rankgarth.cuts import solved
from rankgarth.errors import NoMove, NoName, NoRow
from rankgarth.games import turned
from rankgarth.needs import solved_purses
from rankgarth.plays import PursePlay, RankPlay, WishPlay
from rankgarth.purses import turned_purses
from rankgarth.serve import checked_wishes, solve_wishes
from rankgarth.texts import HAND_SIGNS, is_figures, is_name
from rankgarth.texts import read_game, read_purses, read_wishes, shown_game, shown_purses, shown_wishes

# What can stand by a name, each called like the word by which it is put.
KINDS = ("game", "purse", "wish")
# How many figures the words of a row may have that are numbers.
MOST_FIGURES = {"PURSE": 70, "NUMBER": 9}


class Held:
    # What stands by a name, or a play of it, with the names of its places.
    def __init__(self, kind, names, thing):
        self.kind = kind
        self.names = names
        self.thing = thing


def check_name(word):
    if not is_name(word):
        raise NoName("a name is of one to eight small letters")


def held_by(desk, name, kinds):
    held = desk.things.get(name)
    if held is None or held.kind not in kinds:
        raise NoName("nothing stands by the name that the row can be told of")
    return held


def place_in(held, name):
    if name not in held.names:
        raise NoName("there is no such place")
    return held.names.index(name)


def play_held(desk, kinds):
    if desk.play is None or desk.play.kind not in kinds:
        raise NoMove("there is no play of the kind that the row needs")
    return desk.play


def put_game(desk, words):
    check_name(words[0])
    made = read_game(words[1])
    desk.things[words[0]] = Held("game", made[0], made[1])
    return "ok"


def put_purses(desk, words):
    check_name(words[0])
    made = read_purses(words[1])
    desk.things[words[0]] = Held("purse", made[0], made[1])
    return "ok"


def put_wishes(desk, words):
    check_name(words[0])
    made = read_wishes(words[1])
    checked_wishes(made[0], made[1], made[2])
    desk.things[words[0]] = Held("wish", [], made)
    return "ok"


def say_drop(desk, words):
    held_by(desk, words[0], KINDS)
    desk.things.pop(words[0])
    return "ok"


def say_show(desk, words):
    held = held_by(desk, words[0], KINDS)
    if held.kind == "game":
        return shown_game(held.names, held.thing)
    if held.kind == "purse":
        return shown_purses(held.names, held.thing)
    return shown_wishes(held.thing[0], held.thing[1], held.thing[2])


def say_turn(desk, words):
    check_name(words[0])
    held = held_by(desk, words[1], ("game", "purse"))
    made = turned(held.thing) if held.kind == "game" else turned_purses(held.thing)
    desk.things[words[0]] = Held(held.kind, held.names, made)
    return "ok"


def say_won(desk, words):
    held = held_by(desk, words[0], ("game",))
    place = place_in(held, words[1])
    return HAND_SIGNS[solved(held.thing)[0][place]]


def say_need(desk, words):
    held = held_by(desk, words[0], ("purse",))
    place = place_in(held, words[1])
    purse = solved_purses(held.thing)[0][place]
    return "none" if purse is None else str(purse)


def say_serve(desk, words):
    made = held_by(desk, words[0], ("wish",)).thing
    return solve_wishes(made[0], made[1], made[2])[0]


def play_ranks(desk, words):
    held = held_by(desk, words[0], ("game",))
    play = RankPlay(held.thing, place_in(held, words[1]))
    desk.play = Held("game", held.names, play)
    return HAND_SIGNS[play.hand]


def play_purses(desk, words):
    held = held_by(desk, words[0], ("purse",))
    play = PursePlay(held.thing, place_in(held, words[1]), int(words[2]))
    desk.play = Held("purse", held.names, play)
    return HAND_SIGNS[play.hand]


def play_wishes(desk, words):
    made = held_by(desk, words[0], ("wish",)).thing
    play = WishPlay(made[0], made[1], made[2])
    desk.play = Held("wish", [], play)
    return "kept" if play.kept else "broken"


def say_go(desk, words):
    held = play_held(desk, ("game", "purse"))
    return held.names[held.thing.go()]


def say_go_other(desk, words):
    held = play_held(desk, ("game", "purse"))
    if words[0] not in held.names:
        raise NoMove("there is no such way out")
    held.thing.other(held.names.index(words[0]))
    return "ok"


def say_left(desk, words):
    return str(play_held(desk, ("purse",)).thing.left)


def say_now(desk, words):
    return str(play_held(desk, ("wish",)).thing.now())


def say_tick(desk, words):
    deeds = play_held(desk, ("wish",)).thing.tick(int(words[0]))
    return "ok" if deeds is None else str(deeds)


ROWS = {
    "game NAME TEXT": put_game,
    "purse NAME TEXT": put_purses,
    "wish NAME TEXT": put_wishes,
    "drop NAME": say_drop,
    "show NAME": say_show,
    "turn NEW NAME": say_turn,
    "won NAME PLACE": say_won,
    "need NAME PLACE": say_need,
    "serve NAME": say_serve,
    "play NAME PLACE": play_ranks,
    "play NAME PLACE PURSE": play_purses,
    "play NAME": play_wishes,
    "go": say_go,
    "go PLACE": say_go_other,
    "left": say_left,
    "now": say_now,
    "tick NUMBER": say_tick,
}


def words_of(row):
    if not isinstance(row, str):
        raise NoRow("a row is a text")
    words = row.split(" ")
    # The text of what is put has blanks of its own.
    return row.split(" ", 2) if words[0] in KINDS else words


def fits(form, words):
    parts = form.split(" ")
    if len(parts) != len(words) or parts[0] != words[0]:
        return False
    numbers = [(part, word) for part, word in zip(parts, words) if part in MOST_FIGURES]
    return all([is_figures(word, MOST_FIGURES[part]) for part, word in numbers])


class Desk:
    def __init__(self):
        self.things = {}
        self.play = None

    def say(self, row):
        words = words_of(row)
        for form in ROWS:
            if fits(form, words):
                return ROWS[form](self, words[1:])
        raise NoRow("the desk has no such row")
