"""How rows and lines are written: words and whole numbers, parted by one blank.

A form is a text: its first word stands for itself, each mark behind it for a word or a number.
"""

from roundstore.kinds import is_word


def read(line, forms):
    """What a line of one of these forms says, of anything: its first word, then words, numbers, None; else None."""
    pieces = line.split(" ") if isinstance(line, str) else []
    for form in forms:
        if has_form(pieces, form.split(" ")):
            return pieces[:1] + [meant(piece) for piece in pieces[1:]]
    return None


def has_form(pieces, marks):
    """Whether the pieces of a line are as the marks of a form tell."""
    if len(pieces) != len(marks) or pieces[0] != marks[0]:
        return False
    return all([fits(piece, mark) for piece, mark in zip(pieces[1:], marks[1:])])


def fits(piece, mark):
    """Whether a piece may stand for a mark."""
    if mark == "WORD":
        return is_word(piece)
    if mark == "WORTH":
        return is_word(piece) or is_written(piece)
    if mark == "CHOICE":
        return piece == "-" or is_written(piece)
    return is_written(piece)


def is_written(piece):
    """Whether it is a whole number, by one to eighteen figures, no nought ahead but of 0 itself."""
    figures = piece.removeprefix("-")
    if not 1 <= len(figures) <= 18 or not all(["0" <= sign <= "9" for sign in figures]):
        return False
    return piece == "0" or figures[0] != "0"


def meant(piece):
    """What a piece that fits its mark stands for."""
    if piece == "-":
        return None
    return piece if is_word(piece) else int(piece)
