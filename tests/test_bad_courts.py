"""Section 4: texts that are not those of courts."""

from nevertakenback.courts import Court
from nevertakenback.errors import BadCourt
from tests.models import bad_court
from tests.samples import LINE, TRIANGLE, Case, any_court_lines, changed, great_court_lines, seed, text_of, wrong_values


class BadCourts(Case):
    def wrong(self, number, lines):
        self.refuses(BadCourt, number, Court, text_of(lines))

    def test_what_is_no_string(self):
        for value in wrong_values():
            if not isinstance(value, str):
                self.refuses(BadCourt, 0, Court, value)

    def test_no_lines_to_speak_of(self):
        for text in ("", "\n", " ", "place a", "Court", "court ", " court", "court court", "court 1", "stretch 1 1"):
            self.refuses(BadCourt, 1, Court, text)

    def test_the_examples_in_brackets(self):
        self.wrong(5, TRIANGLE[:4])
        self.wrong(12, changed(TRIANGLE, "ball x a", "ball x b"))

    def test_a_text_that_ends_too_early(self):
        for count in range(1, len(TRIANGLE)):
            self.wrong(count + 1, TRIANGLE[:count])

    def test_a_line_feed_too_many(self):
        self.wrong(len(LINE) + 1, LINE + [""])
        self.wrong(1, [""] + LINE)
        self.wrong(7, LINE[:6] + [""] + LINE[6:])

    def test_a_place_that_does_not_hang_together_with_the_first_one(self):
        self.wrong(len(LINE) + 2, changed(LINE, "place c", "place c", "place d"))
        split = changed(changed(LINE, "place c", "place c", "place d"), "way a b 2", "way a d 2")
        self.wrong(len(split) + 1, split)
        self.wrong(len(LINE) + 1, [line for line in LINE + ["ball z a"] if line != "way a b 2"])

    def test_lines_of_no_such_form(self):
        rows = [
            ("court", "court x", "COURT", "courts", ""),
            ("stretch 1/2 2", "stretch 1/2", "stretch 1/2 2 3", "stretch 2/4 2", "stretch 1/2 2/1", "stretch 1/1 2",
             "stretch 0 2", "stretch 0/1 2", "stretch -1/2 2", "stretch 3/2 2", "stretch 1/2 1/2", "stretch 1/2 100",
             "stretch 1/2 199/2", "stretch 1/2 4/2", "stretch  1/2 2", "stretch 1/2 2 ", "stretch 1/-2 2", "stretch",
             "stretch -1/-2 2", "stretch 1/0 2", "stretch 01/2 2", "stretch 1/02 2", "stretch +1/2 2", "stretch 0.5 2",
             "stretch 1/2/3 2", "stretch / 2", "stretch 1/ 2", "stretch /2 2", "stretch 1/2 one", "stretch True 2",
             "stretch 1 0", "stretch 1_0/20 2"),
            ("place b", "place", "place B", "place b b", "place sevenxs", "place b1", "place ", "place  b", "place b ",
             "place \tb", "place -", "places b", "place a"),
            ("way a b 2", "way a b", "way a b 0", "way a b 100", "way a b -1", "way a b 02", "way a b +2", "way a b 2 2",
             "way a b 2.0", "way a b two", "way a b 1_0", "way a b 1/2", "way a b \t2", "way a a 2", "way a d 2",
             "way d a 2", "way a p 2", "way a  b 2", "way b", "way"),
            ("player p a", "player", "player p", "player P a", "player p d", "player p a a", "player p A", "player p a ",
             "player  p a", "player sevenxs a", "player p a d", "player p p"),
            ("player q c", "player p c", "player q a", "player q c a", "player q b c b"),
            ("delay p q 3", "delay p q", "delay p q -1", "delay p q 100", "delay p q 3 3", "delay p q 03", "delay p p 3",
             "delay p r 3", "delay r p 3", "delay p a 3", "delay p  q 3", "delay p q 3/2", "delay p q None", "delay"),
            ("delay q p 1", "delay p q 1", "delay p q 3"),
            ("ball x a", "ball", "ball x", "ball x b", "ball x d", "ball x p", "ball X a", "ball x a a", "ball x a ",
             "ball sevenxs a", "ball  x a"),
            ("ball y c", "ball x c", "ball x a"),
        ]
        for old, *new in rows:
            for line in new:
                self.wrong(LINE.index(old) + 1, changed(LINE, old, line))

    def test_kinds_too_early(self):
        self.wrong(2, ["court", "place a"])
        self.wrong(4, LINE[:3] + ["way a b 2"])
        self.wrong(6, LINE[:5] + ["player p a"])
        self.wrong(9, LINE[:8] + ["delay p q 3"])
        self.wrong(9, LINE[:8] + ["ball x a"])
        self.wrong(3, LINE[:2] + ["ball x a"])

    def test_kinds_too_late(self):
        self.wrong(2, ["court"] + LINE)
        self.wrong(3, LINE[:2] + LINE[1:])
        self.wrong(3, LINE[:2] + ["court"])
        self.wrong(7, LINE[:6] + ["place d"] + LINE[6:])
        self.wrong(9, LINE[:8] + ["way a c 9"] + LINE[8:])
        self.wrong(11, LINE[:10] + ["player r b"] + LINE[10:])
        self.wrong(13, LINE[:12] + ["delay q p 1"] + LINE[12:])
        self.wrong(14, LINE + ["stretch 1 1"])

    def test_two_places_joined_twice(self):
        for line in ("way a b 2", "way b a 2", "way b a 7"):
            self.wrong(7, changed(LINE, "way b c 3", line, "way b c 3"))

    def test_one_too_many_of_a_kind(self):
        lines = great_court_lines()
        self.assertIsNone(bad_court(text_of(lines)))
        for last, more in (
            ("place l", "place m"), ("player pf f", "player pg g"), ("delay pf pe 99", "delay pa pb 1"),
            ("ball z a", "ball zz a"),
        ):
            self.wrong(lines.index(last) + 2, changed(lines, last, last, more))
        way = [line for line in lines if line.startswith("way ")][-1]
        joined = [line.split(" ")[1:3] for line in lines if line.startswith("way ")]
        self.assertNotIn(["h", "l"], joined)
        self.wrong(lines.index(way) + 2, changed(lines, way, way, "way h l 1"))

    def test_each_line_out_twice_or_exchanged(self):
        for lines in (LINE, TRIANGLE, great_court_lines()):
            for at in range(len(lines)):
                self.alike(lines[:at] + lines[at + 1:])
                self.alike(lines[:at + 1] + lines[at:])
                self.alike(lines[:at] + lines[at + 1:at + 2] + lines[at:at + 1] + lines[at + 2:])

    def test_any_courts_with_any_changes(self):
        chance = seed(4)
        for _ in range(400):
            lines = any_court_lines(chance)
            self.alike(lines)
            at, other = chance.randrange(len(lines)), chance.randrange(len(lines))
            self.alike(lines[:at] + lines[at + 1:])
            self.alike(lines[:at] + [lines[other]] + lines[at:])
            words = lines[at].split(" ")
            spare = [word for line in lines for word in line.split(" ")] + ["0", "100", "1/2", "", "-1", "01", "zz"]
            words[chance.randrange(len(words))] = chance.choice(spare)
            self.alike(lines[:at] + [" ".join(words)] + lines[at + 1:])

    def alike(self, lines):
        """The program and the slow reader tell the same of these lines."""
        number = bad_court(text_of(lines))
        if number is None:
            self.assertEqual(Court(text_of(lines)).text, text_of(lines))
        else:
            self.wrong(number, lines)
