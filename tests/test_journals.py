"""Section 16: journals of desks."""

from nevertakenback.desk import Desk
from nevertakenback.errors import BadJournal, NothingToRedo
from nevertakenback.journals import journal, read_journal
from tests.samples import Case, changed, court_of, great_court_lines, text_of, wrong_values
from tests.test_desk import LINES, desk_of
from tests.test_halls import COURT, ROW
from tests.test_rings import CALM, STAR
from tests.test_scripts import RIGHT, WRONG, script


class Journals(Case):
    def test_the_court_the_line_hall_and_the_lines(self):
        self.same(journal(desk_of()), text_of(COURT + ["hall"]))
        self.same(journal(desk_of(*LINES)), text_of(COURT + ["hall"] + LINES))
        self.same(journal(Desk(court_of(CALM))), text_of(CALM + ["hall"]))

    def test_lines_that_were_refused_stand_in_it(self):
        desk = desk_of("strike bob x a 4", "hand 9", "wait -1")
        self.same(desk.answers, ("? NotSeen", "? NoLetter", "? BadTime"))
        self.same(journal(desk).split("\n")[-3:], ["strike bob x a 4", "hand 9", "wait -1"])
        self.same(read_journal(journal(desk)).answers, desk.answers)

    def test_lines_that_were_taken_back_do_not(self):
        desk = desk_of("bag", "check")
        desk.undo()
        self.same(journal(desk), text_of(COURT + ["hall", "bag"]))
        self.refuses(NothingToRedo, None, read_journal(journal(desk)).redo)


class Reading(Case):
    def test_the_desk_of_which_it_is_the_journal(self):
        for lines, said in ((COURT, LINES), (COURT, []), (CALM, RIGHT), (ROW, RIGHT), (ROW, ["check"])):
            desk = Desk(court_of(lines))
            for line in said:
                desk.say(line)
            other = read_journal(journal(desk))
            self.assertIsInstance(other, Desk)
            self.assertTrue(desk == other)
            self.same([other.lines, other.answers, other.hall.bag], [desk.lines, desk.answers, desk.hall.bag])
            self.assertEqual([other.court, other.hall.play], [desk.court, desk.hall.play])
            self.same(journal(other), text_of(lines + ["hall"] + said))

    def test_any_number_of_lines(self):
        for many in (0, 1, 99, 100, 101, 102, 250):
            desk = read_journal(script(COURT, *["bag"] * many))
            self.same([len(desk.lines), desk.answers], [many, ("none",) * many])
            self.assertTrue(read_journal(journal(desk)) == desk)
        self.refuses(BadJournal, len(COURT) + 302, read_journal, script(COURT, *["bag"] * 300 + ["x", "bag"]))

    def test_it_can_go_on(self):
        desk = read_journal(script(COURT, "strike ann x b 4", "wait 5"))
        self.same(desk.say("see bob"), "x at b ; y at a ; z at b")
        desk.undo()
        desk.undo()
        desk.redo()
        self.same([desk.lines, desk.hall.clock], [("strike ann x b 4", "wait 5"), (5, 1)])

    def test_what_is_no_string(self):
        for value in wrong_values() + [desk_of(), 0, b"hall"]:
            if not isinstance(value, str):
                self.refuses(BadJournal, 0, read_journal, value)

    def test_as_played_tells_of_scripts(self):
        for lines in (STAR, great_court_lines()):
            self.refuses(BadJournal, len(lines) + 1, read_journal, script(lines, "bag"))
            self.refuses(BadJournal, len(lines) + 1, read_journal, text_of(lines))
        self.refuses(BadJournal, len(COURT) + 1, read_journal, text_of(COURT))
        for text in ("", "hall", "hall\nbag", "\nhall", "x"):
            self.refuses(BadJournal, 1, read_journal, text)
        self.refuses(BadJournal, len(COURT) + 2, read_journal, script(COURT, "hall"))
        self.refuses(BadJournal, len(COURT) + 2, read_journal, script(COURT) + "\n")
        self.refuses(BadJournal, 4, read_journal, script(changed(COURT, "place b", "place a"), "x"))
        self.refuses(BadJournal, len(COURT) - 2, read_journal, script(COURT[:-3], "x"))
        for line in WRONG:
            self.refuses(BadJournal, len(COURT) + 3, read_journal, script(COURT, "bag", line))
