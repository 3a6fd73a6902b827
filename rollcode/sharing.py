"""Sharing: doors of the same keys, what tells them apart, and what brings them together."""

from rollcode.presses import COUNTS


def opens_at(door, name, age):
    """The stretches (first, last) of counts that the door would let in now."""
    return stretches_of(door, door.button_of(name), age)


def stretches_of(door, button, age):
    """The stretches of counts of that age by which the button, or None, is let in."""
    if button is None or not door.takes_from(button, age):
        return ()
    near, far, most = door.bounds_told()
    own_age, last, waiting = button
    stretches = []
    if last + 1 < COUNTS:
        stretches.append((last + 1, min(last + near, COUNTS - 1)))
    if waiting is not None and waiting[0] == age:
        # What waits is far itself: the next one lies apart from the near ones.
        after = waiting[1] + 1
        if after <= min(last + far, COUNTS - 1):
            stretches.append((after, after))
    return tuple(stretches)


def telling(one, other):
    """The least row of plain presses that tells both apart, None where none does."""
    names = sorted(set(names_known(one)) | set(names_known(other)))
    for name in names:
        press = press_apart(one, one.button_of(name), other, other.button_of(name))
        if press is not None:
            return ((name,) + press,)
    for name in names:
        pair = pair_apart(one, one.button_of(name), other, other.button_of(name))
        if pair is not None:
            return tuple([(name,) + press for press in pair])
    # What two presses don't tell apart, no more of them do (see pair_apart).
    return None


def names_known(door):
    """The names of the buttons that a door knows, rising."""
    return [row[0] for row in door.known_now()]


def press_apart(one, first, other, second):
    """The least (age, count) of a button that just one of both lets in, or None."""
    for age in range(len(one.keys_now())):
        these = stretches_of(one, first, age)
        those = stretches_of(other, second, age)
        if these != those:
            return (age, least_apart(these, those))
    return None


def least_apart(these, those):
    """The least count that lies in just one of two rows of stretches."""
    return sorted(set(counts_in(these)) ^ set(counts_in(those)))[0]


def counts_in(stretches):
    """All counts of some stretches."""
    return [count for first, last in stretches for count in range(first, last + 1)]


def pair_apart(one, first, other, second):
    """The least two (age, count) that tell a button's doors apart, or None.

    It's asked where no single press does. Then, if anything still opens, both
    have one last count and one least age that they take, near ends alike, and
    the same waits that could open: they are unlike at most in where far ends.
    That shows where the lesser far ends, or one behind it: there just one of
    both can take the next one, or loses what waited. Behind what opens both
    they are like that again, so that more than two presses are never needed.
    """
    if first is None or second is None:
        return None
    age = max(first[0], one.closed_now())
    end = lesser_end(one, first, other, second)
    for count in range(end, min(end + 2, COUNTS)):
        word, here = one.plain_step(first, age, count)
        word, there = other.plain_step(second, age, count)
        press = press_apart(one, here, other, there)
        if press is not None:
            return ((age, count), press)
    return None


def lesser_end(one, first, other, second):
    """The last count that is not beyond for both."""
    return min(first[1] + one.bounds_told()[1], second[1] + other.bounds_told()[1])


def agree(one, other):
    """Whether both open to the same presses behind every row of presses."""
    return telling(one, other) is None


def shows_telling(one, other, row):
    """Whether the last of the row tells both apart, and none ahead of it does."""
    these = openings(one, row)
    those = openings(other, row)
    return these[:-1] == those[:-1] and these[-1] != those[-1]


def openings(door, row):
    """For each plain press of the row whether the door opens to it."""
    buttons = {name: door.button_of(name) for name in names_known(door)}
    told = []
    for name, age, count in row:
        word = "unknown"
        if name in buttons:
            word, behind = door.plain_step(buttons[name], age, count)
            buttons[name] = behind
        told.append(word == "near")
    return told


def brought(one, other):
    """(name, count) of each button known in both whose last counts are unlike.

    The press of that count and the next one bring both to one last count and
    one age; the count is None where none does.
    """
    told = []
    for name in sorted(set(names_known(one)) & set(names_known(other))):
        first = one.button_of(name)
        second = other.button_of(name)
        if first[1] != second[1]:
            told.append((name, count_brought(one, first, other, second)))
    return tuple(told)


def count_brought(one, first, other, second):
    """The least count that with the next one brings a button's doors together."""
    age = max(first[0], second[0])
    # The one that is behind must be let in at the other one's last count at
    # least, and what is beyond for one of both never brings it further.
    least = max(first[1], second[1]) - 1
    end = lesser_end(one, first, other, second)
    for count in range(least, min(end + 1, COUNTS - 1)):
        if age_and_last(one, first, age, count) == age_and_last(other, second, age, count):
            return count
    return None


def age_and_last(door, button, age, count):
    """The button's age and last count behind two presses from that count on."""
    word, button = door.plain_step(button, age, count)
    word, button = door.plain_step(button, age, count + 1)
    return button[:2]
