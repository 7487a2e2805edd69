"""Pictures of runs: a line for each store."""

from firstletter.runs import follow_made
from firstletter.webparts import stores_of


def picture(web, numbers, marks, made):
    """One string with a line for each store: its name, its number, its mark, the letters on their way to it."""
    taken, _, waiting = follow_made(web, numbers, marks, made)
    lines = []
    for store in stores_of(web, numbers):
        name, i = store
        mark = taken.get(store, "-")
        many = len([letter for letter in waiting if letter[1] == store])
        lines.append(f"{name:<8} {i:>2} {mark:>3} {many:>3}")
    return "\n".join(lines)
