"""Values, their texts, and the seals in them."""

from lyinghouse.errors import BadText, BadValue, BadValues
from lyinghouse.kinds import GREATEST_NUMBER, is_clean, is_integer, is_name

LONGEST = 100000
DEEPEST = 30
FIGURES = "0123456789"
# How many figures the greatest number has.
MOST_FIGURES = 19


def is_value(value):
    """Whether any value is None, an integer, a string or a tuple that can be said and kept."""
    return is_value_within(value, DEEPEST)


def value_text(value):
    """The one text of a value."""
    _check_value(value)
    return known_text(value)


def known_text(value):
    """The text of what is known to be a value."""
    return _told(value, [])


def read_value(text):
    """The value with this text."""
    if not isinstance(text, str):
        raise BadText(None)
    value, end = _value_at(text, 0, DEEPEST)
    if end < len(text):
        raise BadText(end)
    return value


def first_values(text):
    """The values whose texts stand whole at the beginning, and how many signs these texts have."""
    if not isinstance(text, str):
        raise BadText(None)
    values = []
    end = 0
    while end < len(text):
        try:
            value, end = _value_at(text, end, DEEPEST)
        except BadText:
            break
        values.append(value)
    return tuple(values), end


def is_seal(value):
    """Whether any value is a seal."""
    return is_value(value) and has_seal_form(value)


def seals_in(value):
    """The outermost seals of a value, from left to right."""
    _check_value(value)
    return tuple(_outermost(value))


def all_seals(value):
    """All seals of a value, those within others too, by the places at which they begin."""
    _check_value(value)
    return tuple(_every_seal(value))


def handed_on(got, value):
    """Whether somebody who makes no seals, but got these values, may say this one."""
    if not (isinstance(got, tuple) and all([is_value(part) for part in got])):
        raise BadValues(got)
    _check_value(value)
    heard = []
    for part in got:
        _told(part, heard)
    known = {text: True for text in heard}
    return all([_told(seal, []) in known for seal in _outermost(value)])


def _check_value(value):
    if not is_value(value):
        raise BadValue(value)


def is_value_within(value, room):
    """Whether any value is a value of at most this depth."""
    if isinstance(value, tuple):
        # The depth is looked at ahead of the parts, so that nothing too deep is gone through.
        if room == 0:
            return False
        for part in value:
            if not is_value_within(part, room - 1):
                return False
        return True
    if isinstance(value, str):
        return len(value) <= LONGEST and is_clean(value)
    return value is None or is_integer(value, -GREATEST_NUMBER, GREATEST_NUMBER)


def has_seal_form(value):
    """Whether what is known to be a value is a seal."""
    return isinstance(value, tuple) and len(value) == 3 and value[0] == "seal" and is_name(value[1])


def _outermost(value):
    if has_seal_form(value):
        return [value]
    if not isinstance(value, tuple):
        return []
    return [seal for part in value for seal in _outermost(part)]


def _every_seal(value):
    if not isinstance(value, tuple):
        return []
    own = [value] if has_seal_form(value) else []
    return own + [seal for part in value for seal in _every_seal(part)]


def _told(value, seals):
    """The text of a value; the texts of all its seals are added to the list seals."""
    # Seals are told by their texts: nested tuples are no keys of dicts, and each part is written once.
    if value is None:
        return "n"
    if isinstance(value, int):
        return f"i{value};"
    if isinstance(value, str):
        return f"s{len(value)}:{value}"
    text = "(" + "".join([_told(part, seals) for part in value]) + ")"
    if has_seal_form(value):
        seals.append(text)
    return text


def _value_at(text, at, room):
    """The value of at most this depth whose text begins at this place, and the place behind it.

    This and the functions below raise BadText with the first place at which no text can go on.
    """
    sign = text[at:at + 1]
    if sign == "n":
        return None, at + 1
    if sign == "i":
        return _integer_at(text, at + 1)
    if sign == "s":
        return _string_at(text, at + 1)
    if sign == "(" and room > 0:
        return _tuple_at(text, at + 1, room - 1)
    raise BadText(at)


def _integer_at(text, at):
    if text[at:at + 1] != "-":
        number, end = _number_at(text, at, GREATEST_NUMBER)
        return number, _behind(text, end, ";")
    # Python writes no -0.
    if text[at + 1:at + 2] == "0":
        raise BadText(at + 1)
    number, end = _number_at(text, at + 1, GREATEST_NUMBER)
    return -number, _behind(text, end, ";")


def _string_at(text, at):
    length, end = _number_at(text, at, LONGEST)
    start = _behind(text, end, ":")
    string = text[start:start + length]
    if not is_clean(string):
        raise BadText(start + _clean_signs(string))
    if len(string) < length:
        raise BadText(len(text))
    return string, start + length


def _tuple_at(text, at, room):
    parts = []
    while text[at:at + 1] != ")":
        part, at = _value_at(text, at, room)
        parts.append(part)
    return tuple(parts), at + 1


def _number_at(text, at, most):
    """The number up to most that is written at this place, and the place behind its figures."""
    end = at
    while end < len(text) and end - at < MOST_FIGURES and text[end] in FIGURES:
        end += 1
    # A figure that cannot stand ends the number: it is too great, or stands behind a 0 at the beginning.
    while end > at and not _is_number(text[at:end], most):
        end -= 1
    if end == at:
        raise BadText(at)
    return int(text[at:end]), end


def _is_number(figures, most):
    return figures == str(int(figures)) and int(figures) <= most


def _behind(text, at, sign):
    if text[at:at + 1] != sign:
        raise BadText(at)
    return at + 1


def _clean_signs(string):
    """How many signs stand ahead of the first one that is not clean."""
    many = 0
    while many < len(string) and is_clean(string[many]):
        many += 1
    return many
