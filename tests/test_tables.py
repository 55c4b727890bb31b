from common import Case, chances, names, of_every_kind

from dimkeeper.errors import BadTable, BadText, NoEntry, TooMany
from dimkeeper.tables import Table

TEXT = "2 : 1 r a 2 / 1 s b 1 / 2 r b 1"


def random_table(chance):
    pages = chance.randint(1, 4)
    cells = [(page, sight) for page in range(1, pages + 1) for sight in ("r", "s.t", "a", "a.b")]
    told = chance.sample(cells, chance.randint(1, len(cells)))
    return Table(pages, [(page, sight, chance.choice(["a", "b"]), chance.randint(1, pages)) for page, sight in told])


class Tables(Case):

    def test_example(self):
        table = Table(2, [(2, "r", "b", 1), (1, "r", "a", 2)])
        self.assertEqual([str(table), table.entry_of(2, "r"), table == Table.blind(["r"], ["a", "b"])],
                         ["2 : 1 r a 2 / 2 r b 1", ("b", 1), True])

    def test_attributes(self):
        table = Table(3, ([2, "z", "d", 3], (1, "z", "e", 1), [2, "a.b", "d", 2], (2, "a0", "d", 1)))
        self.assertEqual((table.pages, table.entries),
                         (3, ((1, "z", "e", 1), (2, "a.b", "d", 2), (2, "a0", "d", 1), (2, "z", "d", 3))))
        self.assertEqual((len(table), list(table)), (4, list(table.entries)))
        self.assertEqual([table.entry_of(2, "z"), table.entry_of(1, "z"), table.entry_of(2, "a.b")],
                         [("d", 3), ("e", 1), ("d", 2)])

    def test_cells_of_any_values(self):
        table = Table(2, [(1, "r", "a", 2)])
        self.assertTrue((1, "r") in table and [1, "r"] in table)
        for value in of_every_kind() + [(1, "s"), (2, "r"), (True, "r"), (1.0, "r"), ("r", 1), (1, "r", "a", 2), (1,), "1r",
                                        (1, ["r"]), ([1], "r"), {1: "r"}]:
            self.assertIs(value in table, False)
            if value != 1:
                self.fails(NoEntry(value, "r"), table.entry_of, value, "r")
            self.fails(NoEntry(1, value), table.entry_of, 1, value)
        self.fails(NoEntry(True, "r"), table.entry_of, True, "r")
        self.fails(NoEntry(1.0, "r"), table.entry_of, 1.0, "r")
        self.fails(NoEntry(2, "r"), table.entry_of, 2, "r")

    def test_bad_pages_and_entries(self):
        good = (1, "r", "a", 1)
        for value in of_every_kind():
            if type(value) is not int or value < 1:
                self.fails(BadTable("pages"), Table, value, value)
            self.fails(BadTable("entries"), Table, 1, value)
            self.fails(BadTable("entries"), Table, 1, [good, value])
            if value not in (1, 1.0, True) or type(value) is not int:
                self.fails(BadTable("entries"), Table, 1, [(value, "r", "a", 1)])
                self.fails(BadTable("entries"), Table, 1, [(1, "r", "a", value)])
            if value != "x":
                self.fails(BadTable("entries"), Table, 1, [(1, value, "a", 1)])
                self.fails(BadTable("entries"), Table, 1, [(1, "r", value, 1)])
        for entries in ([(2, "r", "a", 1)], [(1, "r", "a", 2)], [(1, "r", "a")], [(1, "r", "a", 1, 1)], good, {1: good}):
            self.fails(BadTable("entries"), Table, 1, entries)
        self.fails(BadTable("cells"), Table, 2, [(1, "r", "a", 1), (2, "r", "a", 1), (1, "r", "b", 2)])
        self.fails(BadTable("cells"), Table, 2, [(1, "r", "a", 1)] * 2)
        self.fails(BadTable("entries"), Table, 2, [(1, "r", "a", 1)] * 2 + [(3, "r", "a", 1)])

    def test_sizes(self):
        self.assertEqual(Table(200, [(200, "r", "a", 200)]).pages, 200)
        self.fails(TooMany("pages", 200), Table, 201, [(201, "r", "a", 201)])
        self.fails(TooMany("pages", 200), Table, 10 ** 5000, [(1, "r", "a", 10 ** 4999)])
        self.fails(BadTable("cells"), Table, 201, [(1, "r", "a", 1)] * 2)
        rows = [(page, sight, "a", 1) for page in range(1, 201) for sight in names("s", 10)]
        self.assertEqual(len(Table(200, rows)), 2000)
        self.fails(TooMany("entries", 2000), Table, 200, rows + [(1, "s", "a", 1)])
        self.fails(TooMany("pages", 200), Table, 201, rows + [(1, "s", "a", 1)])
        self.reads(Table, Table(8, rows[:80]))
        self.assertEqual(Table.read(str(Table(200, rows))), Table(200, rows))

    def test_turned(self):
        table = Table(3, [(1, "r", "a", 2), (2, "r", "b", 3), (2, "s", "b", 2), (3, "r", "c", 1)])
        self.assertEqual(str(table.turned([1, 3, 2])), "3 : 1 r a 3 / 2 r c 1 / 3 r b 2 / 3 s b 3")
        self.assertEqual(table.turned((1, 2, 3)), table)
        four = Table(4, [(1, "r", "a", 2), (2, "r", "b", 3), (3, "r", "c", 4), (4, "r", "d", 1)])
        self.assertEqual(str(four.turned([1, 3, 4, 2])), "4 : 1 r a 3 / 2 r d 1 / 3 r b 4 / 4 r c 2")
        for value in of_every_kind() + [[2, 1, 3], [1, 2], [1, 2, 3, 4], [1, 2, 2], [1, 2, 4], [True, 2, 3], [1, 2, 3.0],
                                        [1, 2, "3"], "123", {1: 1, 2: 2, 3: 3}, [1, 3, 0]]:
            self.fails(BadTable("order"), table.turned, value)
        self.assertEqual(Table(1, [(1, "r", "a", 1)]).turned([1]), Table(1, [(1, "r", "a", 1)]))
        self.fails(BadTable("order"), Table(1, [(1, "r", "a", 1)]).turned, [True])

    def test_carried(self):
        table = Table(2, [(1, "r", "a", 2), (1, "s", "c", 1), (2, "r", "b", 1)])
        self.assertEqual(str(table.carried({"u": "r", "t": "r", "z": "none"})), "2 : 1 t a 2 / 1 u a 2 / 2 t b 1 / 2 u b 1")
        self.assertEqual(str(table.carried({"r": "s", "s": "r"})), "2 : 1 r c 1 / 1 s a 2 / 2 s b 1")
        self.assertEqual(table.carried({"r": "r", "s": "s"}), table)
        for value in of_every_kind():
            self.fails(BadTable("sights"), table.carried, value)
            self.fails(BadTable("sights"), table.carried, {"u": "r", "z": value}) if value != "x" else None
        self.fails(BadTable("sights"), table.carried, {"z": "none"})
        self.fails(BadTable("sights"), table.carried, {"Z": "r"})
        many = Table(10, [(page, "r", "a", 1) for page in range(1, 11)])
        self.assertEqual(len(many.carried({name: "r" for name in names("s", 200)})), 2000)
        self.fails(TooMany("entries", 2000), many.carried, {name: "r" for name in names("s", 201)})

    def test_blind(self):
        self.assertEqual(str(Table.blind(("s", "r"), ["b", "a", "b"])),
                         "3 : 1 r b 2 / 1 s b 2 / 2 r a 3 / 2 s a 3 / 3 r b 1 / 3 s b 1")
        self.assertEqual(str(Table.blind(["r"], ("a",))), "1 : 1 r a 1")
        for value in of_every_kind() + [["r", "r"]]:
            self.fails(BadTable("sights"), Table.blind, value, value)
            if value not in (["a", "a"], ["r", "r"]):
                self.fails(BadTable("deeds"), Table.blind, ["r"], value)
        self.assertEqual(Table.blind(["r"], ["a"] * 200).pages, 200)
        self.fails(TooMany("pages", 200), Table.blind, ["r"], ["a"] * 201)
        self.fails(TooMany("pages", 200), Table.blind, names("r", 10), ["a"] * 201)
        self.fails(TooMany("entries", 2000), Table.blind, names("r", 21), ["a"] * 100)

    def test_equality(self):
        self.same([Table(2, [(1, "r", "a", 1)]), Table(1, [(1, "r", "a", 1)]), Table(2, [(1, "r", "b", 1)]),
                   Table(2, [(1, "r", "a", 2)]), Table(2, [(1, "s", "a", 1)]), Table(2, [(1, "r", "a", 1), (2, "r", "a", 1)])])
        self.assertEqual(Table(2, [(1, "r", "a", 1), (2, "r", "a", 1)]), Table(2, ([2, "r", "a", 1], [1, "r", "a", 1])))

    def test_nothing_is_shared(self):
        row = [1, "r", "a", 1]
        rows = [row]
        table = Table(1, rows)
        row[2] = "b"
        rows.append(row)
        self.assertEqual(str(table), "1 : 1 r a 1")
        told = list(table)
        told.clear()
        self.assertEqual(len(table), 1)

    def test_texts(self):
        for chance in chances(40):
            self.reads(Table, random_table(chance))
        self.refuses_texts(Table, TEXT)
        self.bends(Table, TEXT)
        self.bends(Table, "1 : 1 r a 1")
        for text, word in [
                ("0 : 1 r a 1", 0), ("201 : 1 r a 1", 0), ("01 : 1 r a 1", 0), ("+1 : 1 r a 1", 0), ("1234567890 : 1 r a 1", 0),
                ("-1 : 1 r a 1", 0), ("2 ; 1 r a 1", 1), ("2 :", 2), ("2 : 3 r a 1", 2), ("2 : 0 r a 1", 2), ("2 : 1 R a 1", 3),
                ("2 : 1 r A 1", 4), ("2 : 1 r a 3", 5), ("2 : 1 r a 01", 5), ("2 : 1 r a", 5), ("2 : 1 r a 1 1", 6),
                ("2 : 1 r a 1 /", 7), ("2 : 2 r a 1 / 1 s a 1", 7), ("2 : 1 r a 1 / 1 r a 1", 8), ("2 : 1 s a 1 / 1 r a 1", 8),
                ("2 : 1 a a 1 / 1 s a 1 / 1 r a 1", 13),
                ("3 : 1 a a 1 / 3 a a 1 / 2 a a 1", 12), ("2 : 1 s a 1 / 2 r a 1", None), ("200 : 200 r a 200", None), ("2 : 1 r a 1 , 2 r a 1", 6),
                ("2 : \u0661 r a 1", 2), ("2 : 1 r a 1_0", 5), ("2 : 1 r a 1.0", 5), ("x : 1 r a 1", 0), ("2 : r 1 a 1", 2)]:
            if word is None:
                self.assertEqual(str(Table.read(text)), text)
            else:
                self.fails(BadText(0, word), Table.read, text)

    def test_no_cell_comes_behind_the_greatest_name(self):
        name = ".".join(["z" * 12] * 6)
        self.reads(Table, Table(2, [(1, name, "a", 1), (2, "r", "a", 1), (2, name, "a", 1)]))
        self.fails(BadText(0, 6), Table.read, f"1 : 1 {name} a 1 / 1 r a 1")
        self.fails(BadText(0, 6), Table.read, f"1 : 1 {name} a 1 /")
        self.fails(BadText(0, 7), Table.read, f"2 : 1 {name} a 1 / 1 r a 1")
        self.fails(BadText(0, 7), Table.read, f"2 : 1 {name} a 1 /")
        self.fails(BadText(0, 8), Table.read, f"2 : 1 {name[:-1]} a 1 / 1 r a 1")

    def test_texts_of_too_many(self):
        rows = [f"{page} {sight} a 1" for page in range(1, 201) for sight in sorted(names("s", 11))]
        text = "200 : " + " / ".join(rows[:2000])
        self.assertEqual(len(Table.read(text)), 2000)
        words = len(text.split(" "))
        self.fails(BadText(0, words), Table.read, "200 : " + " / ".join(rows[:2001]))
        self.fails(BadText(0, words), Table.read, text + " /")
        self.fails(BadText(0, words), Table.read, text + " 1")
