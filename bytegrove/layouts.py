"""Layouts: in which order the parts of a node are stored, and which lengths are stored in front of them."""

from bytegrove.errors import BadLayout, NotThere
from bytegrove.kinds import BYTE

PLUS = "+"


def part_of(slot):
    """Return the name of the part that a slot of a spec stores."""
    return slot.removeprefix(PLUS)


def has_length(slot):
    """Tell whether the slot stores the length of its part, too."""
    return slot.startswith(PLUS)


def is_spec(kinds, maker, spec):
    """Tell whether the tuple of strings is a valid spec of the maker (point 7)."""
    parts = kinds.parts(maker)
    stored = [part_of(slot) for slot in spec]
    if len(stored) != len(parts):
        return False
    # As many slots as parts: if each part has a slot, then each has just one.
    for part in parts:
        if part not in stored:
            return False
    return BYTE not in [kinds.inner(maker, part_of(slot)) for slot in spec if has_length(slot)]


def spec_with(spec, part, slot):
    """Return the spec with another slot for the part."""
    return tuple([slot if part_of(old) == part else old for old in spec])


def spec_price(kinds, maker, spec):
    """Return the sum of the prices of the measured parts of the spec."""
    return sum([kinds.price_of(maker, part_of(slot)) for slot in spec if has_length(slot)])


def specs_price(kinds, pairs):
    """Return the sum of the prices of all measured parts of pairs of a maker and its spec."""
    return sum([spec_price(kinds, maker, spec) for maker, spec in pairs])


def tree_parts(kinds, maker):
    """Return the names of the tree parts of the maker in order."""
    return [part for part in kinds.parts(maker) if kinds.inner(maker, part) != BYTE]


def all_marks(kinds):
    """Return all marks in the order of the makers and parts of the kinds table."""
    return [Layout.mark(maker, part) for maker in kinds.order for part in tree_parts(kinds, maker)]


def measured_spec(kinds, maker):
    """Return the spec in the order of the kinds table in which each tree part is measured."""
    inside = tree_parts(kinds, maker)
    return tuple([PLUS + part if part in inside else part for part in kinds.parts(maker)])


def line_of(name, number):
    """Return the two columns with which a line of a layout begins."""
    return f"{name:<26}{number:>5}"


def split_mark(kinds, text):
    """Return the maker and the part of a mark."""
    maker, _, part = text.partition(".")
    if maker not in kinds or part not in tree_parts(kinds, maker):
        raise NotThere(text)
    return maker, part


class Layout:
    """A spec for each maker of a kinds table (points 7 to 10)."""

    def __init__(self, kinds, specs):
        for maker in specs:
            if maker not in kinds:
                raise NotThere(maker)
        for maker in kinds.order:
            if maker not in specs or not is_spec(kinds, maker, specs[maker]):
                raise BadLayout(maker)
        self.kinds = kinds
        self._pairs = tuple([(maker, specs[maker]) for maker in kinds.order])
        self._price = specs_price(kinds, self._pairs)

    @classmethod
    def plain(cls, kinds):
        """Return the layout in the order of the kinds table without a measured part."""
        return cls(kinds, {maker: kinds.parts(maker) for maker in kinds.order})

    @classmethod
    def measured(cls, kinds):
        """Return the layout in the order of the kinds table with all tree parts measured."""
        return cls(kinds, {maker: measured_spec(kinds, maker) for maker in kinds.order})

    @staticmethod
    def mark(maker, part):
        """Return the mark of a part. It checks nothing."""
        return f"{maker}.{part}"

    @property
    def price(self):
        """The sum of the prices of the measured parts."""
        return self._price

    def __iter__(self):
        return iter(self._pairs)

    def __getitem__(self, at):
        if at not in self.kinds:
            raise NotThere(at)
        return dict(self._pairs)[at]

    def __setitem__(self, at, worth):
        if at not in self.kinds:
            raise NotThere(at)
        if not is_spec(self.kinds, at, worth):
            raise BadLayout(at)
        self._pairs = tuple([(maker, worth if maker == at else spec) for maker, spec in self._pairs])
        self._price = specs_price(self.kinds, self._pairs)

    def place(self):
        """Return the key by which layouts of one kinds table are ordered."""
        # The makers are the same in all of them, so that the pairs compare as their specs do.
        return (self._price, self._pairs)

    def __lt__(self, other):
        if not isinstance(other, Layout):
            return NotImplemented
        return self.place() < other.place()

    def __le__(self, other):
        if not isinstance(other, Layout):
            return NotImplemented
        return self.place() <= other.place()

    def __eq__(self, other):
        if not isinstance(other, Layout):
            return NotImplemented
        return self.place() == other.place()

    def __contains__(self, x):
        return x in [Layout.mark(maker, part_of(slot)) for maker, spec in self._pairs
                     for slot in spec if has_length(slot)]

    def __add__(self, other):
        maker, part = split_mark(self.kinds, other)
        return self._changed(maker, part, PLUS + part)

    def __sub__(self, other):
        maker, part = split_mark(self.kinds, other)
        return self._changed(maker, part, part)

    def _changed(self, maker, part, slot):
        """Return a new layout with another slot for one part."""
        specs = dict(self._pairs)
        specs[maker] = spec_with(specs[maker], part, slot)
        return Layout(self.kinds, specs)

    def __iadd__(self, other):
        maker, part = split_mark(self.kinds, other)
        self[maker] = spec_with(self[maker], part, PLUS + part)
        return self

    def __isub__(self, other):
        maker, part = split_mark(self.kinds, other)
        self[maker] = spec_with(self[maker], part, part)
        return self

    def __xor__(self, other):
        return [mark for mark in all_marks(self.kinds) if (mark in self) != (mark in other)]

    def lines(self):
        """Return a line for each maker and one for the price (point 10)."""
        lines = []
        for maker, spec in self._pairs:
            slots = "".join([" " + slot for slot in spec])
            lines.append(line_of(maker, spec_price(self.kinds, maker, spec)) + slots)
        lines.append(line_of("price", self._price))
        return lines
