"""Runs told letter by letter."""

from firstletter.runs import follow_made
from firstletter.webparts import fee_of


def story_of(web, numbers, marks, made):
    """A generator of the triples (letter, mark, is_taken), for each letter of the run in order."""
    taken, parents, _ = follow_made(web, numbers, marks, made)
    for letter in made:
        sender, store = letter
        # No letter comes twice, so the one of its parent is just the one with which a store took the ask.
        yield letter, taken[sender] - fee_of(web, sender[0]), parents.get(store) == sender
