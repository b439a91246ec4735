"""Houses: readers and counts of the same signs, with names."""

from allrows.counts import Count, count_of_lines, wrong_count_line
from allrows.errors import InvalidHouse, InvalidText, NoName
from allrows.readers import Reader, is_told, lines_of_text, reader_of_lines, wrong_reader_line
from allrows.terms import Term
from allrows.values import is_name, is_sequence, is_signs, is_tuple_of


class House:
    """Signs, and pairs of a name and a reader, or a count, of these signs."""

    def __init__(self, signs, readers, counts=()):
        if not is_signs(signs):
            raise InvalidHouse("signs")
        if not _is_pairs(readers) or not all([_is_reader(thing, signs) for name, thing in readers]):
            raise InvalidHouse("readers")
        if not _are_unlike([name for name, thing in readers]):
            raise InvalidHouse("readers")
        if not _is_pairs(counts) or not all([_is_count(thing, signs) for name, thing in counts]):
            raise InvalidHouse("counts")
        if not _are_unlike([name for name, thing in [*readers, *counts]]):
            raise InvalidHouse("counts")
        self.signs = signs
        self.readers = tuple(readers)
        self.counts = tuple(counts)
        self._named_readers = dict(self.readers)
        self._named_counts = dict(self.counts)

    @classmethod
    def parse(cls, text):
        lines = lines_of_text(text)
        if not is_told(lines[0], "house"):
            raise InvalidText(0)
        blocks = _blocks_of_lines(lines)
        readers = [(name, reader_of_lines(inner)) for kind, name, inner in blocks if kind == "reader"]
        counts = [(name, count_of_lines(inner)) for kind, name, inner in blocks if kind == "count"]
        return cls(lines[0].split(" ")[1], readers, counts)

    @property
    def names(self):
        return tuple([name for name, thing in self.readers + self.counts])

    def has_reader(self, name):
        """Whether any value is the name of a reader."""
        return isinstance(name, str) and name in self._named_readers

    def reader_of(self, name):
        if not self.has_reader(name):
            raise NoName(name)
        return self._named_readers[name]

    def count_of(self, name):
        if not isinstance(name, str) or name not in self._named_counts:
            raise NoName(name)
        return self._named_counts[name]

    def having(self, name, thing):
        """The house with this thing under this name, in the place of another one of its kind, or behind all."""
        if isinstance(thing, Reader):
            # a house would lay it to the counts that two things have one name
            if name in self._named_counts:
                raise InvalidHouse("readers")
            return House(self.signs, _pairs_with(self.readers, name, thing), self.counts)
        return House(self.signs, self.readers, _pairs_with(self.counts, name, thing))

    def without(self, name):
        """The house without the thing of this name."""
        if name not in self.names:
            raise NoName(name)
        return House(self.signs, _pairs_without(self.readers, name), _pairs_without(self.counts, name))

    def term(self, text):
        return Term.parse(self.signs, text)

    def __eq__(self, other):
        return (
            isinstance(other, House)
            and self.signs == other.signs
            and self.readers == other.readers
            and self.counts == other.counts
        )

    def __str__(self):
        return "\n".join([f"house {self.signs}", *_lines_of("reader", self.readers), *_lines_of("count", self.counts)])


def _is_pairs(value):
    """Whether a value is a sequence of pairs of a name and a thing."""
    return is_sequence(value) and all([is_tuple_of(pair, 2) and is_name(pair[0]) for pair in value])


def _is_reader(value, signs):
    return isinstance(value, Reader) and value.signs == signs


def _is_count(value, signs):
    return isinstance(value, Count) and value.reader.signs == signs


def _are_unlike(names):
    return len(set(names)) == len(names)


def _pairs_with(pairs, name, thing):
    if name in [own for own, _ in pairs]:
        return [(own, thing if own == name else other) for own, other in pairs]
    return [*pairs, (name, thing)]


def _pairs_without(pairs, name):
    return [(own, thing) for own, thing in pairs if own != name]


def _lines_of(kind, pairs):
    lines = []
    for name, thing in pairs:
        lines.append(f"{kind} {name}")
        lines.extend([f"  {line}" for line in str(thing).split("\n")])
    return lines


def _blocks_of_lines(lines):
    """The triples of kind, name and lines of the readers and counts that the lines behind the first one tell."""
    blocks = []
    at = 1
    while at < len(lines):
        kind, _, name = lines[at].partition(" ")
        is_late = kind == "reader" and "count" in [other for other, _, _ in blocks]
        if kind not in ("reader", "count") or not is_name(name) or is_late:
            raise InvalidText(at)
        inner = _inner_lines(lines, at + 1)
        wrong = wrong_reader_line(inner) if kind == "reader" else wrong_count_line(inner)
        if wrong is not None:
            raise InvalidText(at + 1 + wrong)
        blocks.append((kind, name, inner))
        at += 1 + len(inner)
    return blocks


def _inner_lines(lines, at):
    """The lines from a number on that have two blanks ahead, without these."""
    inner = []
    while at < len(lines) and lines[at].startswith("  "):
        inner.append(lines[at][2:])
        at += 1
    return inner
