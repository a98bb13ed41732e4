"""Words: the parts of a line of a text, and numbers as words."""

from wattkeep.ratios import is_ratio

DIGITS = "0123456789"


def words_of(line):
    """Return the words of a line, which any number of spaces parts."""
    return [word for word in line.split(" ") if word]


def number_of(word):
    """Return the integer from 0 on that a word writes in digits, none of them needless; None for other words."""
    if not word or not all([sign in DIGITS for sign in word]) or (word[0] == "0" and word != "0"):
        return None
    found = 0
    # Sign by sign, since int takes no more than some thousand digits.
    for sign in word:
        found = 10 * found + DIGITS.index(sign)
    return found


def digits_of(number):
    """Return the digits of an integer from 0 on."""
    left, pieces = number, []
    # Piece by piece, since str takes no more than some thousand digits.
    while left >= 10 ** 60:
        left, rest = divmod(left, 10 ** 60)
        pieces.append(str(rest).zfill(60))
    return str(left) + "".join(reversed(pieces))


def ratio_word(value):
    """Return a ratio as an integer or top/low."""
    top, low = value
    sign = "-" if top < 0 else ""
    behind = "" if low == 1 else f"/{digits_of(low)}"
    return sign + digits_of(abs(top)) + behind


def ratio_of(word):
    """Return the ratio that a word writes as ratio_word does, None for other words."""
    size = word[1:] if word[:1] == "-" else word
    parts = [number_of(part) for part in size.split("/")]
    if len(parts) > 2 or None in parts:
        return None
    top = -parts[0] if word[:1] == "-" else parts[0]
    found = (top, parts[1] if len(parts) == 2 else 1)
    return found if is_ratio(found) and ratio_word(found) == word else None
