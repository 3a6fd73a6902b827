"""Windows: how far a count is ahead of the last one that was let in, and what comes of it."""


def word_of(count, last, near, far):
    """Where a count lies: "old", "near", "far" or "beyond"."""
    if count <= last:
        return "old"
    if count <= last + near:
        return "near"
    if count <= last + far:
        return "far"
    return "beyond"


def step_by(button, age, count, near, far):
    """The word of a press of a button that takes its age, and the button behind it.

    A button is (age, last, waiting or None); "near" is what opens.
    """
    own_age, last, waiting = button
    word = word_of(count, last, near, far)
    if word == "far" and waiting == (age, count - 1):
        # Two far ones in a row open as a near one does.
        word = "near"
    if word == "near":
        return (word, (age, count, None))
    if word == "far":
        return (word, (own_age, last, (age, count)))
    return (word, button)
