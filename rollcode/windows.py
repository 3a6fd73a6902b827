"""Windows: how far a count is ahead of the last one that was let in."""


def word_of(count, last, near, far):
    """Where a count lies: "old", "near", "far" or "beyond"."""
    if count <= last:
        return "old"
    if count <= last + near:
        return "near"
    if count <= last + far:
        return "far"
    return "beyond"
