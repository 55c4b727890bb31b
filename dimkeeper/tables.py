"""Tables: what a notebook tells for a page and a sight."""

from dimkeeper.checks import GREATEST_NAME, are_named, are_names, is_integer, is_name, is_row, is_within, twice
from dimkeeper.errors import BadTable, NoEntry, TooMany
from dimkeeper.reader import Reader


class Table:
    """A table of so many pages."""

    MOST_PAGES = 200
    MOST_ENTRIES = 2000

    def __init__(self, pages, entries):
        if not is_within(pages, 1, None):
            raise BadTable("pages")
        if not is_row(entries) or not entries or not all([is_entry_of(pages, entry) for entry in entries]):
            raise BadTable("entries")
        if twice([(entry[0], entry[1]) for entry in entries]):
            raise BadTable("cells")
        if pages > self.MOST_PAGES:
            raise TooMany("pages", self.MOST_PAGES)
        if len(entries) > self.MOST_ENTRIES:
            raise TooMany("entries", self.MOST_ENTRIES)
        self.pages = pages
        self.entries = tuple(sorted([tuple(entry) for entry in entries]))
        self._cells = {(page, sight): (deed, after) for page, sight, deed, after in self.entries}

    def entry_of(self, page, sight):
        """The deed and the next page of a cell."""
        if (page, sight) not in self:
            raise NoEntry(page, sight)
        return self._cells[page, sight]

    def turned(self, order):
        """The table with other numbers of the same pages, but page 1."""
        if not is_row(order) or not order or not all([is_integer(page) for page in order]):
            raise BadTable("order")
        if order[0] != 1 or sorted(order) != list(range(1, self.pages + 1)):
            raise BadTable("order")
        return Table(self.pages, [(order[page - 1], sight, deed, order[after - 1])
                                  for page, sight, deed, after in self.entries])

    def carried(self, sights):
        """The table over new sights, each of which has the entries of an old one."""
        if not are_named(sights, None):
            raise BadTable("sights")
        news = {}
        for new in sights:
            news.setdefault(sights[new], []).append(new)
        entries = [(page, new, deed, after) for page, sight, deed, after in self.entries
                   for new in news.get(sight, ())]
        if not entries:
            raise BadTable("sights")
        return Table(self.pages, entries)

    @staticmethod
    def blind(sights, deeds):
        """The table that does these deeds page by page, whatever is seen, and then again from page 1 on."""
        if not are_names(sights):
            raise BadTable("sights")
        if not is_row(deeds) or not deeds or not all([is_name(deed) for deed in deeds]):
            raise BadTable("deeds")
        return Table(len(deeds), [(at + 1, sight, deed, (at + 1) % len(deeds) + 1)
                                  for at, deed in enumerate(deeds) for sight in sights])

    def __len__(self):
        return len(self.entries)

    def __iter__(self):
        return iter(self.entries)

    def __contains__(self, value):
        if not is_row(value) or len(value) != 2 or not is_integer(value[0]) or not isinstance(value[1], str):
            return False
        return (value[0], value[1]) in self._cells

    def __eq__(self, other):
        return isinstance(other, Table) and self.pages == other.pages and self.entries == other.entries

    def __str__(self):
        rows = [f"{page} {sight} {deed} {after}" for page, sight, deed, after in self.entries]
        return " : ".join([str(self.pages), " / ".join(rows)])

    @classmethod
    def read(cls, text):
        """The table with this text."""
        reader = Reader(text)
        pages = reader.take_number(1, cls.MOST_PAGES)
        reader.take_mark(":")
        entries = [read_entry(reader, pages, (1, ""))]
        while reader.due() is not None:
            reader.need(len(entries) < cls.MOST_ENTRIES and least_page_behind(entries[-1]) <= pages)
            reader.take_mark("/")
            entries.append(read_entry(reader, pages, entries[-1]))
        return cls(pages, entries)


def check_table(value, part):
    """Raises BadTable unless the value is a table."""
    if not isinstance(value, Table):
        raise BadTable(part)


def is_table(pages, entries):
    """Whether a table of these pages and entries can be made."""
    if not is_within(pages, 1, Table.MOST_PAGES) or not is_row(entries):
        return False
    if not 1 <= len(entries) <= Table.MOST_ENTRIES or not all([is_entry_of(pages, entry) for entry in entries]):
        return False
    return not twice([(entry[0], entry[1]) for entry in entries])


def is_entry_of(pages, value):
    """Whether a value is an entry of a table of so many pages."""
    if not is_row(value) or len(value) != 4:
        return False
    if not is_within(value[0], 1, pages) or not is_within(value[3], 1, pages):
        return False
    return is_name(value[1]) and is_name(value[2])


def least_page_behind(last):
    """The least page of a cell that comes behind the last one: no sight comes behind the greatest name."""
    return last[0] + 1 if last[1] == GREATEST_NAME else last[0]


def read_entry(reader, pages, last):
    """The entry that is due, the cell of which comes behind that of the last one."""
    page = reader.take_number(least_page_behind(last), pages)
    reader.need(is_name(reader.due()))
    sight = reader.take(page > last[0] or reader.due() > last[1])
    deed = reader.take_name()
    return page, sight, deed, reader.take_number(1, pages)
