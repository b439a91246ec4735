"""Acts on several readers at once, numbered in the order of their least rows."""

from allrows.readers import table_of
from allrows.walks import walked_table


class Monoid:
    """The acts of rows: their least rows, and where the signs, put behind, lead each of them."""

    def __init__(self, readers):
        lead = _act_lead(readers)
        self.signs = readers[0].signs
        many = sum([len(reader.marks) for reader in readers])
        self.acts_found, self.least_rows, self.table = walked_table(self.signs, tuple(range(many)), lead)

    def led(self, number, row):
        """The number of the act that comes of one by a row put behind."""
        for sign in row:
            number = self.table[number][self.signs.index(sign)]
        return number

    def like(self, row):
        """The least row that acts like a row."""
        return self.least_rows[self.led(0, row)]

    def round_of(self, row):
        """The acts of a row 0, 1, .. times until they come round, and the number of the first that comes again."""
        found = []
        places = {}
        number = 0
        while number not in places:
            places[number] = len(found)
            found.append(number)
            number = self.led(number, row)
        return (found, places[number])


def _act_lead(readers):
    """How a sign, put behind, leads an act on; marks are numbered, those of one reader behind those ahead of it."""
    table = []
    for reader in readers:
        begin = len(table)
        table.extend([[begin + target for target in targets] for targets in table_of(reader)])

    def lead(one, at):
        return tuple([table[mark][at] for mark in one])

    return lead
