"""Notes: rows of text that tell a payment, a rate or a question for a loan."""

from loanplan.errors import NoNote

# How many numbers stand behind the word of each kind of note.
NUMBERS = {"pay": 2, "rate": 2, "owe": 1}
MOST_FIGURES = 30


def read(line):
    """Give the note of a row: ("pay", day, cents), ("rate", day, rate) or ("owe", day)."""
    words = line.split(" ")
    if words[0] not in NUMBERS or len(words) != 1 + NUMBERS[words[0]]:
        raise NoNote("a note is pay DAY CENTS, rate DAY RATE or owe DAY")
    numbers = [number_of(word) for word in words[1:]]
    return (words[0], *numbers)


def shown(note):
    """Give the row of a note."""
    return " ".join([str(part) for part in note])


def number_of(word):
    """Give the number of some figures; NoNote of what is not written as one."""
    # isdigit alone takes signs that are no figures from 0 to 9.
    if not (word.isascii() and word.isdigit()) or len(word) > MOST_FIGURES:
        raise NoNote(f"a number is 1 to {MOST_FIGURES} figures")
    if word[0] == "0" and word != "0":
        raise NoNote("a number does not begin with a nought")
    return int(word)
