"""Formulas over names."""

from wakesafe.errors import InvalidFormula, InvalidText, NoName
from wakesafe.words import ascending, is_name

# How many formulas stand behind a sign.
SIGNS = {"&": 2, "|": 2, "^": 2, "~": 1}
CONSTANTS = ("0", "1")
# How many names the rows of one page of a table tell apart.
PAGE_NAMES = 11


class Formula:
    """A value, True or False, for each choice of values of some names.

    The formula is kept as steps. A step is a tuple of a word and, if the word
    is a sign, the places of the steps of the formulas behind it. Steps stand
    behind those that they name, from left to right, and each different one
    stands once: so a formula that contains another one many times stays small,
    and two formulas have the same text just if they have the same steps.
    """

    def __init__(self, steps):
        self.steps = steps
        self.names = ascending([step[0] for step in steps if step[0] not in SIGNS and step[0] not in CONSTANTS])

    @classmethod
    def of(cls, name):
        """The formula that has the value of a name."""
        if not is_name(name):
            raise InvalidFormula("name")
        return cls(((name,),))

    @classmethod
    def always(cls, value):
        """The formula that always has this value."""
        if not isinstance(value, bool):
            raise InvalidFormula("value")
        return cls((("1" if value else "0",),))

    @classmethod
    def read(cls, text):
        """The formula with this text."""
        words = text.split(" ")
        _check_words(words)
        return cls(_steps_of_words(words))

    @property
    def needs(self):
        """The names on which the formula depends, in ascending order."""
        pages = _table(self.steps, self.names, {})
        many = len(self.names)
        return tuple([name for at, name in enumerate(self.names) if _changes(pages, at, many)])

    def value(self, known):
        """The value for known values of all names."""
        for name in self.names:
            if name not in known:
                raise NoName(name)
        return _table(self.steps, (), known) == [1]

    def under(self, known):
        """The value that is the same for all values of the names that are not known, or None."""
        missing = [name for name in self.names if name not in known]
        pages = _table(self.steps, missing, known)
        everywhere = _everywhere(len(missing))
        if all([page == everywhere for page in pages]):
            return True
        return None if any(pages) else False

    def depends(self, name):
        """Whether the value changes with this name for some values of the others."""
        return name in self.needs

    def put(self, formulas):
        """The formula with others in the place of their names, all at once."""
        given = {name: formulas[name].steps for name in self.names if name in formulas}
        return Formula(_put(self.steps, given))

    def __and__(self, other):
        if not isinstance(other, Formula):
            return NotImplemented
        return Formula(_joined("&", self.steps, other.steps))

    def __or__(self, other):
        if not isinstance(other, Formula):
            return NotImplemented
        return Formula(_joined("|", self.steps, other.steps))

    def __xor__(self, other):
        if not isinstance(other, Formula):
            return NotImplemented
        return Formula(_joined("^", self.steps, other.steps))

    def __invert__(self):
        return Formula(_put((("p",), ("~", 0)), {"p": self.steps}))

    def __eq__(self, other):
        if not isinstance(other, Formula):
            return NotImplemented
        return _follows(self, other) and _follows(other, self)

    def __le__(self, other):
        if not isinstance(other, Formula):
            return NotImplemented
        return _follows(self, other)

    def __ge__(self, other):
        if not isinstance(other, Formula):
            return NotImplemented
        return _follows(other, self)

    def __str__(self):
        return str(_text(self.steps))


def _check_words(words):
    """Raises an error for the first word that cannot stand where it does."""
    wanted = 1
    for at, word in enumerate(words):
        if wanted == 0 or not (word in SIGNS or word in CONSTANTS or is_name(word)):
            raise InvalidText(at)
        wanted = wanted - 1 + SIGNS.get(word, 0)
    if wanted > 0:
        raise InvalidText(len(words))


def _steps_of_words(words):
    """The steps of a formula with these words, which are known to make one."""
    steps = []
    waiting = []
    for word in words:
        waiting.append([word])
        while waiting and len(waiting[-1]) > SIGNS.get(waiting[-1][0], 0):
            steps.append(tuple(waiting.pop()))
            if waiting:
                waiting[-1].append(len(steps) - 1)
    return _each_once(steps)


def _each_once(steps):
    """The same steps with each different one only where it stands first."""
    kept = []
    places = {}
    moved = []
    for step in steps:
        new = (step[0], *[moved[at] for at in step[1:]])
        if new not in places:
            places[new] = len(kept)
            kept.append(new)
        moved.append(places[new])
    return tuple(kept)


def _put(steps, given):
    """The steps of a formula with given steps in the place of names."""
    longer = []
    moved = []
    for step in steps:
        if step[0] in given:
            ahead = len(longer)
            longer.extend([(part[0], *[ahead + at for at in part[1:]]) for part in given[step[0]]])
        else:
            longer.append((step[0], *[moved[at] for at in step[1:]]))
        moved.append(len(longer) - 1)
    return _each_once(longer)


def _joined(sign, left, right):
    """The steps of two formulas behind a sign."""
    return _put((("p",), ("q",), (sign, 0, 1)), {"p": left, "q": right})


def _text(steps):
    """The text of the formula with these steps."""
    texts = []
    for step in steps:
        texts.append(" ".join([step[0], *[texts[at] for at in step[1:]]]))
    return texts[-1]


# A table tells in which rows a formula is true. The rows are the choices of
# values of some names: name number k is true in a row if bit k of the row's
# number is set. A table is a list of pages, integers with a bit for each row:
# the low bits of a row's number tell the bit, the others the page. So numbers
# stay short, however many names there are.


def _inside(many):
    """How many of so many names the rows of one page tell apart."""
    return many if many < PAGE_NAMES else PAGE_NAMES


def _everywhere(many):
    """The page of what is true in all rows of so many names."""
    return (1 << (1 << _inside(many))) - 1


def _column(at, many):
    """The page of the name with this number, among so many names."""
    width = 1 << at
    column = ((1 << width) - 1) << width
    for place in range(at + 1, _inside(many)):
        column = column | (column << (1 << place))
    return column


def _table(steps, names, known):
    """The table of a formula over these names; all others in it are known."""
    everywhere = _everywhere(len(names))
    columns = {name: everywhere if known[name] else 0 for name in known}
    for at, name in enumerate(names[:PAGE_NAMES]):
        columns[name] = _column(at, len(names))
    pages = []
    for number in range(1 << len(names[PAGE_NAMES:])):
        for at, name in enumerate(names[PAGE_NAMES:]):
            columns[name] = everywhere if (number >> at) & 1 else 0
        pages.append(_page(steps, columns, everywhere))
    return pages


def _page(steps, columns, everywhere):
    """The page of a formula whose names have these pages."""
    found = []
    for step in steps:
        word = step[0]
        if word == "&":
            found.append(found[step[1]] & found[step[2]])
        elif word == "|":
            found.append(found[step[1]] | found[step[2]])
        elif word == "^":
            found.append(found[step[1]] ^ found[step[2]])
        elif word == "~":
            found.append(found[step[1]] ^ everywhere)
        elif word in CONSTANTS:
            found.append(everywhere if word == "1" else 0)
        else:
            found.append(columns[word])
    return found[-1]


def _changes(pages, at, many):
    """Whether a table over so many names changes with the name with this number."""
    if at < PAGE_NAMES:
        unset = _everywhere(many) ^ _column(at, many)
        return any([(page ^ (page >> (1 << at))) & unset != 0 for page in pages])
    other = 1 << (at - PAGE_NAMES)
    return any([page != pages[number ^ other] for number, page in enumerate(pages)])


def _without_last(pages, many):
    """The table over all of so many names but the last: whether some value of the last one makes it true."""
    half = len(pages) // 2
    if half > 0:
        return [pages[number] | pages[half + number] for number in range(half)]
    return [(pages[0] | (pages[0] >> (1 << (many - 1)))) & _everywhere(many - 1)]


def _sometimes(formula, shared, value):
    """The table over the shared names: whether some values of its other names give the formula this value."""
    others = [name for name in formula.names if name not in shared]
    many = len(formula.names)
    pages = _table(formula.steps, shared + others, {})
    if not value:
        everywhere = _everywhere(many)
        pages = [page ^ everywhere for page in pages]
    for left in range(many, len(shared), -1):
        pages = _without_last(pages, left)
    return pages


def _follows(p, q):
    """Whether q is true whenever p is.

    Only the names that both have can hold p and q together. So each is asked
    by itself, and no table over the names of both is made.
    """
    shared = [name for name in p.names if name in q.names]
    holding = _sometimes(p, shared, True)
    failing = _sometimes(q, shared, False)
    return all([first & second == 0 for first, second in zip(holding, failing)])
