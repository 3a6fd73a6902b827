"""Hearing: what a door may come to, whichever presses of a row are heard."""


def heard(door, row, hearing):
    """The answers to a hearing of the row, and what is known behind it."""
    twin = door.twin_door()
    answers = tuple([twin.hear(row[number]) for number in hearing])
    return (answers, twin.known_now())


def may_open(door, row, k, late):
    """The least hearing within late whose last one is k, and is let in."""
    press = plain_press(door, row[k])
    if press is None:
        return None
    presses = presses_of(plain_row(door, row), press[0])
    # Hearings of one length, rising: (hearing, the button behind it, recent).
    layer = [((), door.button_of(press[0]), ())]
    seen = {}
    while layer:
        for hearing, button, recent in layer:
            if opens(door, button, press) and k in numbers_next(recent, len(row), late):
                return hearing + (k,)
        further = []
        for hearing, button, recent in layer:
            for number, behind, later in ways_on(door, presses, button, recent, late):
                # Of hearings that go on alike the first one is the least.
                if (behind, later) not in seen:
                    seen[(behind, later)] = True
                    further.append((hearing + (number,), behind, later))
        layer = further
    return None


def comes_to(door, row, late):
    """All that known_now can tell behind some hearing within late, rising."""
    presses = plain_row(door, row)
    # Hearings of several buttons, each by itself within late, can always be
    # heard as one within late: by the greatest number that each had till then.
    # So whatever one button may come to, each other may come to all of its own.
    told = [()]
    for name, age, last, waiting in door.known_now():
        buttons = buttons_within(door, presses_of(presses, name), name, late)
        told = [known + ((name,) + button,) for known in told for button in buttons]
    return tuple(told)


def sure(door, row):
    """The numbers that are let in by each hearing in order that they stand in."""
    presses = plain_row(door, row)
    return tuple([k for k in range(len(row)) if is_sure(door, presses, k)])


def is_sure(door, presses, k):
    """Whether k is let in whatever is heard, in order, ahead of it."""
    if presses[k] is None:
        return False
    name = presses[k][0]
    buttons = buttons_within(door, presses_of(presses[:k], name), name, 0)
    return all([opens(door, button, presses[k]) for button in buttons])


def least_lost(door, row, k):
    """The fewest numbers ahead of k without which it isn't let in."""
    press = plain_press(door, row[k])
    if press is None:
        return ()
    # By each button that k may meet: the least that is lost on the way to it.
    losses = {door.button_of(press[0]): ()}
    for number, each in enumerate(presses_of(plain_row(door, row[:k]), press[0])):
        if each is not None:
            losses = losses_behind(door, losses, each, number)
    held = [lost for button, lost in losses.items() if not opens(door, button, press)]
    return min(held, key=size_first, default=None)


def losses_behind(door, losses, press, number):
    """The least losses by each button, behind a press that is heard or lost."""
    ways = []
    for button, lost in losses.items():
        ways.append((button_behind(door, button, press), lost))
        ways.append((button, lost + (number,)))
    least = {}
    for button, lost in ways:
        if button not in least or size_first(lost) < size_first(least[button]):
            least[button] = lost
    return least


def size_first(numbers):
    """By this the fewest numbers are least, then the first as tuples rise."""
    return (len(numbers), numbers)


def plain_press(door, press):
    """(name, age, count) of a press, None of one that never changes anything."""
    pair = door.read_right(press)
    if pair is None or door.button_of(press[0]) is None:
        return None
    return (press[0], press[1], pair[0])


def plain_row(door, row):
    """The row's presses by plain_press."""
    return [plain_press(door, press) for press in row]


def presses_of(presses, name):
    """The plain presses, with None in the place of other buttons' ones."""
    return [press if press is not None and press[0] == name else None for press in presses]


def opens(door, button, press):
    """Whether the door lets in a plain press of that button."""
    name, age, count = press
    return door.plain_step(button, age, count)[0] == "near"


def button_behind(door, button, press):
    """How the button is behind a plain press of it."""
    name, age, count = press
    return door.plain_step(button, age, count)[1]


def buttons_within(door, presses, name, late):
    """All that the button can be behind some hearing within late, rising."""
    layer = [(door.button_of(name), ())]
    seen = {layer[0]: True}
    while layer:
        further = []
        for button, recent in layer:
            for number, behind, later in ways_on(door, presses, button, recent, late):
                if (behind, later) not in seen:
                    seen[(behind, later)] = True
                    further.append((behind, later))
        layer = further
    found = {button: True for button, recent in seen}
    return sorted(found, key=none_first)


def none_first(button):
    """By this buttons rise as tuples do, None ahead of what waits."""
    age, last, waiting = button
    return (age, last, () if waiting is None else waiting)


def ways_on(door, presses, button, recent, late):
    """(number, the button behind it, recent) of each press that may be heard next.

    What changes nothing is left out: all comes about without it, too.
    """
    ways = []
    for number in numbers_next(recent, len(presses), late):
        if presses[number] is not None:
            behind = button_behind(door, button, presses[number])
            if behind != button:
                ways.append((number, behind, recent_with(recent, number, late)))
    return ways


def numbers_next(recent, many, late):
    """The numbers that may be heard next, within late, rising."""
    least = max(0, recent[-1] - late) if recent else 0
    return [number for number in range(least, many) if number not in recent]


def recent_with(recent, number, late):
    """The heard numbers, rising, that count for what may be heard further on.

    What lies more than late below the greatest one can't be heard any more,
    so that it's of no account whether it was.
    """
    numbers = sorted(recent + (number,))
    return tuple([each for each in numbers if each + late >= numbers[-1]])
