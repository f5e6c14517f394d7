"""Numbers in decimal, without unnecessary zeros [91]."""

DIGITS = "0123456789"


def numbers_told(low, high):
    """The dict from the texts of some INTEGERS, from a least to a greatest one, to these."""
    return {str(number): number for number in range(low, high + 1)}


def count_told(text):
    """The COUNT with this text, None if there is none."""
    if text == "" or not all([mark in DIGITS for mark in text]) or text[0] == "0" and text != "0":
        return None
    return int(text)
