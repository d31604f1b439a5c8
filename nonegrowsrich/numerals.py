"""Numerals: numbers written by figures, with no 0 ahead but in 0 itself."""

FIGURES = "0123456789"
MOST_FIGURES = 4000

# Python itself refuses to write long numbers at once.
AT_ONCE = 64
CHUNK = 10 ** 64


def show_numeral(number):
    """The number's figures, `-` ahead where it is below 0."""
    if number < 0:
        return "-" + show_numeral(-number)
    written = []
    while number >= CHUNK:
        number, rest = divmod(number, CHUNK)
        written.append(str(rest).zfill(AT_ONCE))
    written.append(str(number))
    return "".join(written[::-1])


def read_numeral(word):
    """The number that the word writes; None where it writes none, or by too many figures."""
    figures = word[1:] if word.startswith("-") else word
    if not 1 <= len(figures) <= MOST_FIGURES or figures.strip(FIGURES) != "":
        return None
    if figures.startswith("0") and word != "0":
        return None
    return int(word)
