"""Webs and numbers as texts."""


def table_text(table):
    """A table as one word."""
    return ",".join(table) if len(table) > 0 else "-"


def kind_text(kind):
    """A kind by form as one line."""
    name, fee, has, table = kind
    word = "has" if has else "not"
    return f"kind {name} {fee} {word} {table_text(table)}"


def web_text(web):
    """The lines of the kinds in their order, then that of the asker, with newlines between."""
    kinds, asker = web
    lines = [kind_text(kind) for kind in kinds]
    return "\n".join([*lines, f"asker {asker}"])


def numbers_text(numbers):
    """Numbers as one word."""
    return ",".join([str(number) for number in numbers])


def pair_text(pair):
    """A pair of a name and a number as one word: a store, or a pair of a plan."""
    name, number = pair
    return f"{name}:{number}"
