"""Doors: buttons that are known, and what is let in of all that is heard."""

from rollcode.errors import BadPress, Full, Known, TooMany, Unknown
from rollcode.presses import AGES, is_press, read_press
from rollcode.windows import step_by


class Door:
    """A door of a house, with the buttons that it knows and its log."""

    def __init__(self, table, keys, near, far, most):
        self.table = tuple(table)
        self.house_keys = [tuple(key) for key in keys]
        self.near = near
        self.far = far
        self.most = most
        self.least_age = 0
        # By a button's name: its age, its last count, its waiting pair or None.
        self.buttons = {}
        self.log = []

    def learn(self, one, other):
        """Two presses in a row make their button known."""
        first = self.read_right(one)
        if first is None:
            raise BadPress(0)
        second = self.read_right(other)
        # Name, age and count are asked of what is right alone.
        if second is None or other[:2] != one[:2] or second[0] != first[0] + 1:
            raise BadPress(1)
        name, age, code = one
        if name in self.buttons:
            raise Known("that button is known")
        if self.is_full():
            raise Full("no button more may be known")
        self.buttons[name] = (age, second[0], None)
        self.log.append(("learn", one, other))

    def is_full(self):
        """Whether as many buttons are known as may be."""
        return len(self.buttons) >= self.most

    def forget(self, name):
        """The button isn't known any more."""
        if name not in self.buttons:
            raise Unknown("no such button is known")
        self.buttons.pop(name)
        self.log.append(("forget", name))

    def turn_key(self, key):
        """One key more, of the next age."""
        if len(self.house_keys) >= AGES:
            raise TooMany("there are as many keys as ages")
        turned = tuple(key)
        self.house_keys.append(turned)
        self.log.append(("turn", turned))

    def close_below(self, age):
        """The ages below this one are closed, for good."""
        self.least_age = max(self.least_age, age)
        self.log.append(("close", age))

    def hear(self, thing):
        """What the door answers to a thing: it opens, or it is held."""
        # What is bad may be anything, lists too: the log keeps none of it.
        if not is_press(thing):
            return ("held", "bad")
        answer = self.answer_to(thing)
        self.log.append(("hear", thing, answer))
        return answer

    def answer_to(self, press):
        """The answer to what has the form of a press, and what comes of it."""
        name, age, code = press
        button = self.button_of(name)
        if button is None:
            return ("held", "unknown")
        if not self.takes_from(button, age):
            return ("held", "age")
        pair = read_press(self.table, self.house_keys[age], press)
        if pair is None:
            return ("held", "false")
        count, deed = pair
        word, behind = self.plain_step(button, age, count)
        self.buttons[name] = behind
        if word == "near":
            return ("open", name, deed)
        return ("held", word)

    def button_of(self, name):
        """The known button (age, last, waiting or None), None of an unknown one."""
        return self.buttons.get(name)

    def plain_step(self, button, age, count):
        """The word of a button's press by its count alone, and the button behind it.

        Nothing of the door changes by it; "near" is what opens.
        """
        if not self.takes_from(button, age):
            return ("age", button)
        return step_by(button, age, count, self.near, self.far)

    def takes_from(self, button, age):
        """Whether a press of that age may be let in of this button."""
        return self.takes_age(age) and age >= button[0]

    def takes_age(self, age):
        """Whether there is a key of that age, and it isn't closed."""
        return self.least_age <= age < len(self.house_keys)

    def read_right(self, thing):
        """The pair (count, deed) of a right press, None of all else."""
        if not is_press(thing) or not self.takes_age(thing[1]):
            return None
        return read_press(self.table, self.house_keys[thing[1]], thing)

    def known_now(self):
        """A tuple (name, age, last, waiting) for each known button, by names."""
        return tuple([(name,) + self.buttons[name] for name in sorted(self.buttons)])

    def keys_now(self):
        """The keys, by their ages."""
        return tuple(self.house_keys)

    def closed_now(self):
        """The least age that isn't closed."""
        return self.least_age

    def bounds_told(self):
        """How far is near, how far is far, and how many may be known."""
        return (self.near, self.far, self.most)

    def table_told(self):
        """The table of the codes."""
        return self.table

    def log_now(self):
        """All that was done and not refused, in order."""
        return tuple(self.log)

    def twin_door(self):
        """A door of its own that is the same in all."""
        twin = Door(self.table, self.house_keys, self.near, self.far, self.most)
        twin.least_age = self.least_age
        twin.buttons = dict(self.buttons)
        twin.log = list(self.log)
        return twin
