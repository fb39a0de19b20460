"""The names under which a desk keeps books and processors."""

LETTERS = "abcdefghijklmnopqrstuvwxyz"
MOST_LETTERS = 8


def is_name(value):
    """Whether the value is a name: a string of one to eight small letters."""
    if not isinstance(value, str) or not 1 <= len(value) <= MOST_LETTERS:
        return False
    return all([letter in LETTERS for letter in value])
