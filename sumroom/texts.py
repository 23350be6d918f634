"""Texts: a room written in lines, and read back."""

from sumroom.errors import BadText
from sumroom.rooms import FURTHEST, MOST_LETTERS, MOST_NOTHINGS, Room


def letters_line(letters):
    """Return the first line of a text."""
    return f"letters {letters}"


def nothing_line(row):
    """Return the line of a nothing."""
    return " ".join(["nothing"] + [str(number) for number in row])


def room_text(room):
    """Return the text of a room."""
    lines = [letters_line(room.letters())] + [nothing_line(row) for row in room.nothings()]
    return "\n".join(lines)


def letters_of(line):
    """Return how many letters a first line tells, None if it cannot stand there."""
    for letters in range(MOST_LETTERS + 1):
        if line == letters_line(letters):
            return letters
    return None


def number_of(word):
    """Return the number that a word of a nothing's line tells, None if it cannot stand there."""
    figures = word[1:] if word.startswith("-") else word
    # Figures of other scripts are digits as well. And int refuses a word of thousands of figures.
    if not figures.isascii() or not figures.isdigit() or len(figures) > len(str(FURTHEST)):
        return None
    number = int(word)
    # A number is written in one way alone.
    return number if str(number) == word and abs(number) <= FURTHEST else None


def row_of(line, letters):
    """Return the nothing that a line tells in a room of so many letters, None if it cannot stand there."""
    words = line.split(" ")
    if words[0] != "nothing" or len(words) != letters + 1:
        return None
    row = [number_of(word) for word in words[1:]]
    return row if None not in row else None


def room_of(text):
    """Return the room of a text."""
    if type(text) is not str:
        raise BadText(None)
    lines = text.split("\n")
    letters = letters_of(lines[0])
    if letters is None:
        raise BadText(0)
    rows = []
    for at, line in enumerate(lines[1:], start=1):
        row = row_of(line, letters)
        if row is None or len(rows) == MOST_NOTHINGS:
            raise BadText(at)
        rows.append(row)
    return Room(letters, rows)
