"""The words that all modules share: names, events, deeds and goals."""

LETTERS = "abcdefghijklmnopqrstuvwxyz"
LONGEST = 4
RESERVED = ("any", "none", "ask", "idle", "tick", "dip", "kept", "go", "hold", "note")

PLAIN_EVENTS = ("ask", "idle", "tick")
AREA_EVENTS = ("dip", "spill")

PLAIN_DEEDS = ("hold", "go", "note", "answer", "forget")
FENCE_DEEDS = ("fence", "open")
AREA_DEEDS = ("save", "load", "cut", "power", "reset")

GOALS = ("blind", "hollow", "leak", "lost", "stuck", "swallowed", "wrong")


def is_sequence(value):
    """Whether any value is a sequence."""
    return isinstance(value, (list, tuple))


def is_name(value):
    """Whether any value is a name."""
    if not isinstance(value, str) or value in RESERVED:
        return False
    return 1 <= len(value) <= LONGEST and all([letter in LETTERS for letter in value])


def is_event(value):
    """Whether any value is an event, of whatever area."""
    return isinstance(value, str) and _is_phrase(value, PLAIN_EVENTS, AREA_EVENTS)


def is_kind(word):
    """Whether a string is a kind of events."""
    return word in PLAIN_EVENTS or word in AREA_EVENTS


def is_deed(value):
    """Whether any value is a deed, of whatever area or fence."""
    return isinstance(value, str) and _is_phrase(value, PLAIN_DEEDS, FENCE_DEEDS + AREA_DEEDS)


def kind_of(phrase):
    """The first word of an event or a deed."""
    return phrase.partition(" ")[0]


def name_of(phrase):
    """The area or fence of an event or a deed, or the empty string."""
    return phrase.partition(" ")[2]


def ascending(names):
    """The tuple of these names, each once, in ascending order."""
    return tuple(sorted(set(names)))


def _is_phrase(text, alone, named):
    """Whether a text is one of the words that stand alone, or one of the others and a name."""
    word, space, name = text.partition(" ")
    if space:
        return word in named and is_name(name)
    return word in alone
