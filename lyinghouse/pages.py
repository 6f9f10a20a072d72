"""Texts in pages. Places of signs never shift: so each sign always lies in the page that its place tells.

A text is told by a reference, the name of its block or a draft of it, and by its length; the empty text by None
and 0. A text of at most PAGE signs lies in one block, whose body it is. The body of a longer one is (length,
refs): it is made of texts of its own, of which each but the last one has its span of signs.
"""

from lyinghouse.drafts import Draft, body_of
from lyinghouse.errors import BadFile

PAGE = 64
MOST_REFS = 16
EMPTY = (None, 0)


def text_in(bag, ref):
    """The text behind this reference, as a pair with its length."""
    if ref is None:
        return EMPTY
    body = _body(bag, ref)
    return ref, len(body) if isinstance(body, str) else body[0]


def signs_in(bag, text, at, many):
    """The signs of the text from the place at on, at most so many."""
    ref, length = text
    if at >= length or many == 0:
        return ""
    if length <= PAGE:
        return _body(bag, ref)[at:at + many]
    span = _span(length)
    found = []
    for place, piece in enumerate(_pieces(bag, text, span)):
        start = place * span
        low, high = max(at - start, 0), min(at + many - start, span)
        found.append(signs_in(bag, piece, low, max(high - low, 0)))
    return "".join(found)


def changed(bag, text, length, at, signs):
    """The reference to the text of so many signs that has these signs from the place at on, else those of text.

    It is the same reference if nothing changes.
    """
    if length == 0:
        return None
    ref, many = _beginning(bag, text, length)
    if signs == "" and many == length:
        return ref
    if length <= PAGE:
        return _changed_page(bag, ref, length, at, signs)
    span = _span(length)
    pieces = _pieces(bag, (ref, many), span)
    refs = []
    for start in range(0, length, span):
        piece = pieces[start // span] if start < many else EMPTY
        within = signs[max(start - at, 0):max(start + span - at, 0)]
        refs.append(changed(bag, piece, min(span, length - start), max(at - start, 0), within))
    is_same = many == length and refs == [piece[0] for piece in pieces]
    return ref if is_same else Draft((length, tuple(refs)))


def first_unlike(bag, one, other):
    """The first place at which both texts have a sign, and not the same one; None if there is none."""
    if one == other or EMPTY in (one, other):
        return None
    length = max(one[1], other[1])
    if length <= PAGE:
        return _unlike_place(signs_in(bag, one, 0, PAGE), signs_in(bag, other, 0, PAGE))
    span = _span(length)
    pairs = list(zip(_pieces(bag, one, span), _pieces(bag, other, span)))
    for place, (mine, its) in enumerate(pairs):
        found = first_unlike(bag, mine, its)
        if found is not None:
            return place * span + found
    return None


def text_blocks(bag, text):
    """The names of all blocks in which the text lies."""
    ref, length = text
    if ref is None:
        return []
    # A page needs not be looked at for its name.
    pieces = [] if length <= PAGE else _pieces(bag, text, _span(length))
    return [ref] + [block for piece in pieces for block in text_blocks(bag, piece)]


def _body(bag, ref):
    body = body_of(bag, ref)
    if not isinstance(body, (str, tuple)):
        raise BadFile(ref)
    return body


def _span(length):
    """How many signs each part of a text with so many has, if it is no page, but for the last part."""
    span = PAGE
    while span * MOST_REFS < length:
        span = span * MOST_REFS
    return span


def _pieces(bag, text, span):
    """The texts of which this one is made, if each but the last one has so many signs: at most MOST_REFS."""
    ref, length = text
    if length <= span:
        return [text]
    refs = _body(bag, ref)[1]
    return [(refs[place], min(span, length - place * span)) for place in range(len(refs))]


def _beginning(bag, text, length):
    """The text, or the first part of it, or of that, which still has so many signs."""
    ref, many = text
    while many > PAGE and length <= _span(many):
        ref, many = _body(bag, ref)[1][0], _span(many)
    return ref, many


def _changed_page(bag, ref, length, at, signs):
    old = "" if ref is None else _body(bag, ref)
    new = (old[:at] + signs + old[at + len(signs):])[:length]
    return ref if new == old else Draft(new)


def _unlike_place(one, other):
    for place in range(min(len(one), len(other))):
        if one[place] != other[place]:
            return place
    return None
