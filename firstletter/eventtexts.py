"""Events and logs as lines."""

from firstletter.webtexts import numbers_text, web_text


def event_line(event):
    """The line of an event by form."""
    if event[0] == "came":
        _, (sender, i), (store, j) = event
        return f"came {sender} {i} {store} {j}"
    word, told = event
    return f"{word} {told}"


def log_lines(log):
    """The list of the lines of a log: those of its first element, then one for each event."""
    _, web, numbers, marks, guard = log[0]
    lines = web_text(web).split("\n")
    first = f"live {guard} {marks} {numbers_text(numbers)} {len(lines)}"
    return [first, *lines, *[event_line(event) for event in log[1:]]]
