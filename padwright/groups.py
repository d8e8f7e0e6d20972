"""Texts parted into groups of signs, counted from the end, by a mark."""

from padwright.errors import NoGroups

MOST_SIGNS = 40


def grouped(text, size, mark):
    """Give the text with a mark ahead of each size of signs, but none at the front."""
    if size == 0:
        return text
    return mark.join(parts_of(text, size, 0))


def ungrouped(text, size, mark):
    """Give the one text of 1 to 40 signs that is grouped to this text."""
    # How long a text is tells where its marks stand; so the mark may be any sign, one of the text's own too.
    plain = text if size == 0 else "".join(parts_of(text, size, 1))
    if not 1 <= len(plain) <= MOST_SIGNS or grouped(plain, size, mark) != text:
        raise NoGroups("no text of 1 to 40 signs is grouped so")
    return plain


def parts_of(text, size, between):
    """Give the parts of a text of so many signs each, the first perhaps of fewer, leaving out what stands between."""
    parts = []
    end = len(text)
    while end > 0:
        parts.append(text[max(0, end - size):end])
        end = end - size - between
    parts.reverse()
    return parts
