"""A house: doors and buttons of the same keys, and what was pressed in it."""

from rollcode.buttons import Button
from rollcode.doors import Door
from rollcode.errors import BadPress, Full, Known, TooMany, Unknown, Worn
from rollcode.needing import needs
from rollcode.presses import AGES, COUNTS
from rollcode.sharing import telling


class House:
    """The doors and buttons of a house, by their names."""

    def __init__(self, table, key):
        self.table = tuple(table)
        self.house_keys = [tuple(key)]
        self.least_age = 0
        self.doors = {}
        self.buttons = {}
        # Every press that was sent, by its number.
        self.kept = []
        # By a door's name: the numbers of what it let in.
        self.opened = {}

    def add_door(self, name, near, far, most):
        """A door of all keys that there are; what is closed is closed to it, too."""
        if name in self.doors:
            raise Known("there is a door of that name")
        door = Door(self.table, self.house_keys, near, far, most)
        if self.least_age > 0:
            door.close_below(self.least_age)
        self.doors[name] = door
        self.opened[name] = []

    def add_button(self, name, step):
        """A button of the newest key."""
        if name in self.buttons:
            raise Known("there is a button of that name")
        age = len(self.house_keys) - 1
        self.buttons[name] = Button(name, self.table, self.house_keys[age], age, step)

    def door_named(self, name):
        """The house's own door of that name."""
        if name not in self.doors:
            raise Unknown("there is no door of that name")
        return self.doors[name]

    def button_named(self, name):
        """The house's own button of that name."""
        if name not in self.buttons:
            raise Unknown("there is no button of that name")
        return self.buttons[name]

    def teach(self, door, button):
        """The button is pressed twice, and the door learns it."""
        taught = self.door_named(door)
        pressed = self.button_named(button)
        if taught.button_of(button) is not None:
            raise Known("the door knows that button")
        if taught.is_full():
            raise Full("the door may know no button more")
        if pressed.count_now() > COUNTS - 2:
            raise Worn("the button can't be pressed twice")
        # All that learn could refuse is asked here: nothing may be pressed then.
        if not taught.takes_age(pressed.age_now()):
            raise BadPress(0)
        one = self.keep_press(pressed, 0)
        other = self.keep_press(pressed, 0)
        taught.learn(self.kept[one], self.kept[other])

    def press_button(self, button, deed, doors):
        """The button is pressed, the doors hear it: (number, answers)."""
        for name in doors:
            self.door_named(name)
        number = self.keep_press(self.button_named(button), deed)
        return (number, tuple([self.hear_at(name, number) for name in doors]))

    def keep_press(self, pressed, deed):
        """The button is pressed once: the number that its press is kept under."""
        self.kept.append(pressed.press_once(deed))
        return len(self.kept) - 1

    def hear_at(self, door, number):
        """What the door answers to the press that was kept under that number."""
        answer = self.doors[door].hear(self.kept[number])
        if answer[0] == "open":
            self.opened[door].append(number)
        return answer

    def play_kept(self, number, door):
        """What was kept is heard once more: the door's answer."""
        self.door_named(door)
        if not 0 <= number < len(self.kept):
            raise BadPress(number)
        return self.hear_at(door, number)

    def lose_cell(self, button):
        """The button's cell goes out and comes back."""
        self.button_named(button).cell_out()

    def tear_cell(self, button):
        """The button's cell goes out in the midst of a write, if one is due."""
        self.button_named(button).cell_torn()

    def turn_house(self, key):
        """One key more, for all doors and those to come."""
        if len(self.house_keys) >= AGES:
            raise TooMany("there are as many keys as ages")
        for door in self.doors.values():
            door.turn_key(key)
        self.house_keys.append(tuple(key))

    def turn_button(self, button):
        """The button gets the next age's key."""
        turned = self.button_named(button)
        age = turned.age_now() + 1
        if age >= len(self.house_keys):
            raise Worn("there is no newer key")
        turned.turn_key(self.house_keys[age])

    def close_ages(self, age):
        """All doors, and those to come, close below that age."""
        if not 0 <= age < len(self.house_keys):
            raise Unknown("there is no key of that age")
        for door in self.doors.values():
            door.close_below(age)
        self.least_age = max(self.least_age, age)

    def forget_at(self, door, button):
        """The door forgets the button."""
        # No door knows another button than the house's: forget refuses it alike.
        self.door_named(door).forget(button)

    def door_now(self, door):
        """A twin of the door."""
        return self.door_named(door).twin_door()

    def button_now(self, button):
        """The button's age, its next count and its cells."""
        asked = self.button_named(button)
        return (asked.age_now(), asked.count_now(), asked.cells_now())

    def kept_now(self):
        """All presses that were kept, by their numbers."""
        return tuple(self.kept)

    def opened_by(self, door):
        """The numbers of what the door let in, in order."""
        self.door_named(door)
        return tuple(self.opened[door])

    def apart_now(self):
        """For each two doors (name, name, the least row that tells them apart or None)."""
        told = []
        names = sorted(self.doors)
        for place, name in enumerate(names):
            for other in names[place + 1:]:
                told.append((name, other, telling(self.doors[name], self.doors[other])))
        return tuple(told)

    def unheard(self, door, button):
        """How many presses of the button from now on the door needs, or None."""
        asked = self.door_named(door)
        pressed = self.button_named(button)
        return needs(asked, button, pressed.age_now(), pressed.count_now())
