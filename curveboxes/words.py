"""The words of texts, and the numbers that they write."""

from curveboxes.errors import BadText


def words_of(text):
    """The list of the words of a text, parted at single spaces."""
    if not isinstance(text, str):
        raise BadText(0, 0)
    return text.split(" ")


def number_in(word, least, most):
    """The number from least to most that str writes as this word, or None."""
    # The length comes first: int refuses words of some thousand digits.
    if len(word) > len(str(most)) or not word.isascii() or not word.isdigit():
        return None
    number = int(word)
    if str(number) != word or not least <= number <= most:
        return None
    return number
