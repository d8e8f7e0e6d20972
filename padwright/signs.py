"""The signs of which texts are made, and the sets of them that have names."""

# All sets but the last are parts of it; the blank is a sign, too, but stands in none of them.
SIGN_SETS = {
    "lower": "abcdefghijklmnopqrstuvwxyz",
    "upper": "ABCDEFGHIJKLMNOPQRSTUVWXYZ",
    "figures": "0123456789",
    "all": "!\"#$&'()*+,-./0123456789:;<=>?@ABCDEFGHIJKLMNOPQRSTUVWXYZ[\\]^_`abcdefghijklmnopqrstuvwxyz{|}~",
}


def is_text(thing):
    """Tell whether a thing, whatever it is, is a text of blanks and of these signs alone."""
    if not isinstance(thing, str):
        return False
    return all([sign == " " or sign in SIGN_SETS["all"] for sign in thing])
