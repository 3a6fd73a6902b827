"""Runs of sheets: an answer for each row that does or asks something."""

from rollcode.errors import BadPress, Full, Known, TooMany, Unknown, Worn
from rollcode.house import House
from rollcode.sheet import SIGNS, read_sheet

DONE = "done"
NOTHING = "-"


def text_of(thing):
    """A number as a text, None as nothing."""
    return NOTHING if thing is None else str(thing)


def parted(texts, mark):
    """The texts with the mark between them, nothing where there is none."""
    return mark.join(texts) if texts else NOTHING


def answer_text(answer):
    """What a door answered."""
    if answer[0] == "open":
        return f"open:{SIGNS[answer[2]]}"
    return f"held:{answer[1]}"


def known_text(known):
    """A known button, with what waits."""
    name, age, last, waiting = known
    text = f"{name} {age} {last}"
    if waiting is None:
        return text
    late_age, count = waiting
    return f"{text} {late_age}:{count}"


def apart_text(apart):
    """Two doors, with what tells them apart."""
    one, other, row = apart
    if row is None:
        return f"{one} {other} agree"
    presses = [f"{name}.{age}.{count}" for name, age, count in row]
    return " ".join([one, other] + presses)


def do_door(house, row):
    word, name, near, far, most = row
    house.add_door(name, near, far, most)
    return DONE


def do_button(house, row):
    word, name, step = row
    house.add_button(name, step)
    return DONE


def do_teach(house, row):
    word, door, button = row
    house.teach(door, button)
    return DONE


def do_press(house, row):
    word, button, deed, *doors = row
    number, answers = house.press_button(button, deed, doors)
    return " ".join([str(number)] + [answer_text(answer) for answer in answers])


def do_play(house, row):
    word, number, door = row
    return answer_text(house.play_kept(number, door))


def do_lose(house, row):
    house.lose_cell(row[1])
    return DONE


def do_tear(house, row):
    house.tear_cell(row[1])
    return DONE


def do_turn(house, row):
    house.turn_house(row[1])
    return DONE


def do_turned(house, row):
    house.turn_button(row[1])
    return DONE


def do_close(house, row):
    house.close_ages(row[1])
    return DONE


def do_forget(house, row):
    word, door, button = row
    house.forget_at(door, button)
    return DONE


def tell_known(house, row):
    known = house.door_now(row[1]).known_now()
    return parted([known_text(each) for each in known], " ; ")


def tell_now(house, row):
    age, count, cells = house.button_now(row[1])
    return " ".join([text_of(part) for part in (age, count) + cells])


def tell_opened(house, row):
    return parted([str(number) for number in house.opened_by(row[1])], " ")


def tell_apart(house, row):
    return parted([apart_text(each) for each in house.apart_now()], " ; ")


def tell_needs(house, row):
    word, door, button = row
    return text_of(house.unheard(door, button))


def tell_log(house, row):
    return str(len(house.door_now(row[1]).log_now()))


# By a row's word: what does it in the house, and tells the answer.
DEEDS = {
    "door": do_door,
    "button": do_button,
    "teach": do_teach,
    "press": do_press,
    "play": do_play,
    "lose": do_lose,
    "tear": do_tear,
    "turn": do_turn,
    "turned": do_turned,
    "close": do_close,
    "forget": do_forget,
    "known": tell_known,
    "now": tell_now,
    "opened": tell_opened,
    "apart": tell_apart,
    "needs": tell_needs,
    "log": tell_log,
}


def answer_of(house, row):
    """The answer to a row, a refusal, too."""
    deed = DEEDS[row[0]]
    try:
        return deed(house, row)
    except Worn:
        return "refused Worn"
    except Known:
        return "refused Known"
    except Full:
        return "refused Full"
    except Unknown:
        return "refused Unknown"
    except TooMany:
        return "refused TooMany"
    except BadPress:
        return "refused BadPress"


def run(text):
    """The answers to the rows of a sheet behind its first one."""
    first, *rows = read_sheet(text)
    word, table, key = first
    house = House(table, key)
    return tuple([answer_of(house, row) for row in rows])
