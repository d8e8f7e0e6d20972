"""Fills taken off again: of a text, all those that are padded to it."""

from padwright.pads import padded, pads_of


def stripped(text, width, fill, side):
    """Give the list of all texts that are padded to this one, by rising lengths."""
    if len(text) > width:
        return [text]
    plains = []
    # Nothing is padded to a text that is shorter than the width: then none of these is found.
    for length in range(width + 1):
        ahead = pads_of(length, width, side)[0]
        plain = text[ahead:ahead + length]
        if padded(plain, width, fill, side) == text:
            plains.append(plain)
    return plains


def stripped_inside(text, lead, width, fill):
    """Give the list of all rests with which the lead is padded inside to this text, by rising lengths."""
    if not text.startswith(lead):
        return []
    # Seen from the rest, the width that the lead leaves was filled as at the right.
    return stripped(text[len(lead):], width - len(lead), fill, "right")
