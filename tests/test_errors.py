from common import Case, of_every_kind

from dimkeeper import errors

PARTS = """BadWorld BadBlur BadWatch BadTask BadStanding BadTable BadPlay BadView BadLog BadTree BadRow BadGroups BadWait
BadSmudges BadRoster BadFog BadFront BadHall BadStory BadNumbers BadPaper""".split()
MISSING = "NoState NoLabel NoDeed NoSight NoWatchState NoName".split()
OTHERS = {"NoEntry": ["page", "sight"], "NoTable": ["number"], "NotKept": ["why"], "Twice": ["name"],
          "Unlike": ["what"], "Breaks": ["state", "place"], "NotNow": ["what"], "NoWay": ["sight"], "Ended": [],
          "Nothing": [], "TooMany": ["what", "most"], "BadText": ["line", "word"], "BadLine": ["line", "error"],
          "Missing": ["name"]}


class Errors(Case):

    def test_base(self):
        self.assertEqual(errors.DimError.__bases__, (ValueError,))

    def test_all_are_there_and_no_others(self):
        told = [name for name, value in vars(errors).items() if isinstance(value, type)]
        self.assertEqual(sorted(told), sorted(PARTS + MISSING + list(OTHERS) + ["DimError"]))

    def test_bases(self):
        for name in PARTS + list(OTHERS):
            self.assertEqual(getattr(errors, name).__bases__, (errors.DimError,), name)
        for name in MISSING:
            self.assertEqual(getattr(errors, name).__bases__, (errors.Missing,), name)

    def test_fields_by_place_and_by_name(self):
        fields = {**{name: ["part"] for name in PARTS}, **{name: ["name"] for name in MISSING}, **OTHERS}
        for name, told in fields.items():
            for value in of_every_kind():
                values = [value] * len(told)
                by_place = getattr(errors, name)(*values)
                by_name = getattr(errors, name)(**dict(zip(told, values)))
                for error in (by_place, by_name):
                    self.assertEqual(list(vars(error)), told)
                    for field in told:
                        self.assertIs(getattr(error, field), value)

    def test_fields_stand_in_their_order(self):
        error = errors.TooMany("deeds", 12)
        self.assertEqual((error.what, error.most), ("deeds", 12))
        error = errors.BadText(0, 3)
        self.assertEqual((error.line, error.word), (0, 3))
        error = errors.Breaks("s", "w")
        self.assertEqual((error.state, error.place), ("s", "w"))
        error = errors.NoEntry(1, "r")
        self.assertEqual((error.page, error.sight), (1, "r"))
        inner = errors.Nothing()
        error = errors.BadLine(2, inner)
        self.assertEqual((error.line, error.error), (2, inner))
