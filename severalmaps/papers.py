"""What papers of all kinds have in common."""


def is_paper(thing, word, length):
    """Tells whether a thing is a tuple of this length, above 0, that begins with this word."""
    if type(thing) != tuple or len(thing) != length:
        return False
    return type(thing[0]) == str and thing[0] == word
