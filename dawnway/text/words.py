"""Words of texts: names, integers, and lines of told forms."""

from dawnway.base.names import DAWN, is_integer, is_name

# Forty digits and a sign.
_MAX_SIGNS = 41


def words_of(parts):
    """The line of the parts, integers written as by `str`."""
    return " ".join([str(part) for part in parts])


def read_words(words, form):
    """The values of the words, each of the kind that the form tells, or None if one is not.

    A kind is `place` for a name or dawn, `integer`, `names`, or a tuple of the words that can stand there.
    """
    if len(words) != len(form):
        return None
    values = [_read_word(word, kind) for word, kind in zip(words, form)]
    return None if None in values else values


def read_line(line, forms):
    """The first word of a line and its values by the form of this word, or None if it has no such form."""
    words = line.split(" ")
    if words[0] not in forms:
        return None
    values = read_words(words[1:], forms[words[0]])
    return None if values is None else [words[0], *values]


def _read_word(word, kind):
    """The value of a word, or None."""
    if kind == "place":
        return word if _is_place(word) else None
    if kind == "integer":
        return _read_integer(word)
    if kind == "names":
        return _read_names(word)
    return word if word in kind else None


def _is_place(word):
    return word == DAWN or is_name(word)


def _read_integer(word):
    digits = word[1:] if word.startswith("-") else word
    if digits == "" or len(word) > _MAX_SIGNS or not all([sign in "0123456789" for sign in digits]):
        return None
    number = int(word)
    return number if str(number) == word and is_integer(number) else None


def _read_names(word):
    """The tuple of the names, each told once, or None."""
    names = [] if word == "-" else word.split(",")
    if not all([_is_place(name) for name in names]) or len(set([name for name in names])) < len(names):
        return None
    return tuple(names)
