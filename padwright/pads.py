"""Texts put into a width with a fill, at a side; none is ever cut."""


def pads_of(length, width, side):
    """Give the tuple (ahead, behind) of how many fills stand round a text of so many signs."""
    lacks = max(0, width - length)
    if side == "left":
        return (0, lacks)
    if side == "right":
        return (lacks, 0)
    return (lacks // 2, lacks - lacks // 2)


def padded(text, width, fill, side):
    """Give a text with its fills ahead and behind."""
    pads = pads_of(len(text), width, side)
    return fill * pads[0] + text + fill * pads[1]


def padded_inside(lead, rest, width, fill):
    """Give the lead, then the fills that lead and rest together lack, then the rest."""
    # Seen from the rest, the width that the lead leaves is filled as at the right.
    return lead + padded(rest, width - len(lead), fill, "right")
