"""Promises 10.1 and 10.2, and what 0.2, 0.4 and 1.2 say of them."""

import copy
import unittest
from itertools import combinations

from readsfrom.claims import is_ledger, ledger_of
from readsfrom.errors import NoPicks, TooMany
from readsfrom.programs import look_at
from readsfrom.programtexts import read
from readsfrom.stronger import by_picks, is_paper, paper_of, picks_of
from readsfrom.turns import outcomes
from tests.small import CROSSWISE, SENT, SENT_AND_WAITED_FOR, SENT_BY_FENCES, STRONGEST, small_programs
from tests.things import MODES, SORTS, STRANGE, long_program, put, refuses_programs

SIX = ("boxes x y\nhand\nwrite x 5 plain\nfence taking\nwrite y 1 giving\nread q x plain\n"
       "hand\nread r y plain\nfence giving\nskip r is 0 2\nread s x plain\nclaim s is 5")


class PicksTest(unittest.TestCase):
    def refuses(self, program, thing):
        with self.assertRaises(NoPicks):
            by_picks(program, thing)

    def test_each_sort_with_each_mode(self):
        some = 0
        for sort, deed in SORTS.items():
            for mode in MODES.get(sort, [deed[-1]]):
                weak = put(deed, len(deed) - 1, mode)
                program = (["x", "y"], [[], [("fence", "both"), weak]])
                if sort in ("skip", "claim") or mode == STRONGEST[sort]:
                    self.assertEqual(picks_of(program), [])
                    self.refuses(program, [(1, 1)])
                else:
                    self.assertEqual(picks_of(program), [(1, 1)])
                    strong = (["x", "y"], [[], [("fence", "both"), put(deed, len(deed) - 1, STRONGEST[sort])]])
                    self.assertEqual(by_picks(program, [(1, 1)]), strong)
                    some += 1
                self.assertEqual(by_picks(program, []), program)
        self.assertEqual(some, 3 * 2 + 3 * 3 + 2)

    def test_of_a_long_program(self):
        program = long_program()
        self.assertEqual(picks_of(program), [(0, 0), (0, 1), (0, 3), (0, 4), (0, 6), (0, 7), (2, 0), (2, 2), (2, 3),
                                             (2, 4), (2, 5)])
        strong = by_picks(program, picks_of(program))
        self.assertEqual(picks_of(strong), [])
        self.assertIsNone(look_at(strong))
        self.assertEqual(strong[1][0][1], ("write", "b", "r", "giving"))
        self.assertEqual(strong[1][2][4:], [("fence", "both"), ("fence", "both"), ("skip", "r", "is", 1, 8)])
        some = by_picks(program, [(0, 6), (2, 2)])
        self.assertEqual(picks_of(some), [pick for pick in picks_of(program) if pick not in [(0, 6), (2, 2)]])

    def test_no_picks(self):
        program = read(SENT.format("plain", "plain"))
        could = [(0, 0), (0, 1), (1, 0), (1, 2)]
        self.assertEqual(picks_of(program), could)
        for thing in [could[::-1], [(1, 0), (0, 1)], [(0, 0), (0, 0)], could + could[-1:], tuple(could), (), could[0],
                      [(1, 1)], [(1, 3)], [(0, 2)], [(2, 0)], [(-1, 0)], [(0, -1)], [list(pick) for pick in could],
                      [(0, 0, 0)], [(0,)], [0], [()], [(False, 0)], [(0, True)], [(0.0, 0)], [("0", "0")], "", "0.0",
                      "00", {(0, 0)}, {(0, 0): 1}, [could], [(0, 0), None], [None, (0, 0)]]:
            self.refuses(program, thing)
        for thing in STRANGE:
            for strange in (thing, [thing], [(0, 0), thing], [(thing, 0)], [(0, thing)], [(0, 0), (1, thing)]):
                self.refuses(program, strange)
        for many in range(5):
            for picks in combinations(could, many):
                self.assertEqual(picks_of(by_picks(program, list(picks))), [one for one in could if one not in picks])

    def test_what_is_told_is_the_askers_own(self):
        program = read(SENT.format("plain", "plain"))
        kept = copy.deepcopy(program)
        picks = [(0, 1)]
        told = by_picks(picks=picks, program=program)
        told[0].append("z")
        told[1][0].clear()
        told[1].clear()
        could = picks_of(program=program)
        could.clear()
        same = by_picks(program, [])
        same[0].clear()
        same[1][1].clear()
        self.assertEqual((program, picks), (kept, [(0, 1)]))
        self.assertEqual(len(picks_of(program)), 4)

    def test_no_outcome_of_a_full_graph_is_new_and_no_claim_fails_that_did_not(self):
        fewer = 0
        for program in small_programs():
            could = picks_of(program)
            full = [one for one in outcomes(program) if "stuck" not in one[0]]
            for picks in (could[:1], could[1:], could):
                told = [one for one in outcomes(by_picks(program, picks)) if "stuck" not in one[0]]
                self.assertEqual([one for one in told if one not in full], [], (program, picks))
                fewer += len(told) < len(full)
                if ledger_of(program)[0] == "holds":
                    self.assertEqual(ledger_of(by_picks(program, picks))[0], "holds")
        self.assertGreater(fewer, 5)

    def test_no_programs(self):
        refuses_programs(self, picks_of)
        refuses_programs(self, lambda program: by_picks(program, []))
        refuses_programs(self, lambda program: by_picks(program, None))
        refuses_programs(self, paper_of)
        refuses_programs(self, lambda program: is_paper(program, None))
        refuses_programs(self, lambda program: is_paper(program, ([], 1, [])))


class PaperTest(unittest.TestCase):
    def told_paper(self, text, picks, rows):
        """The told paper, looked at part by part."""
        program = read(text)
        paper = paper_of(program)
        self.assertEqual((type(paper), len(paper)), (tuple, 3))
        self.assertEqual((paper[0], len(paper[2])), (picks, rows))
        self.assertEqual(("holds", paper[1]), ledger_of(by_picks(program, picks)))
        could = picks_of(program)
        fewer = [list(choice) for many in range(len(picks)) for choice in combinations(could, many)]
        self.assertEqual([choice for choice, _ in paper[2]], fewer)
        for choice, run in paper[2]:
            self.assertIs(is_ledger(by_picks(program, choice), ("fails", run)), True)
        self.assertIs(is_paper(program, paper), True)
        # None ahead of these picks, of as many, is enough.
        for choice in combinations(could, len(picks)):
            if list(choice) == picks:
                break
            self.assertEqual(ledger_of(by_picks(program, list(choice)))[0], "fails")
        return paper

    def test_no_picks(self):
        self.told_paper("boxes x\nhand", [], 0)
        self.told_paper(SENT.format("giving", "taking"), [], 0)
        self.told_paper(CROSSWISE.format("plain", "plain"), [], 0)
        self.told_paper("boxes x\nhand\nread r x plain\nclaim r is 0", [], 0)

    def test_one(self):
        self.told_paper(SENT.format("giving", "plain"), [(1, 0)], 1)
        self.told_paper(SENT.format("plain", "taking"), [(0, 1)], 1)
        self.told_paper(SENT_AND_WAITED_FOR.format("giving", "loose"), [(1, 0)], 1)
        self.told_paper(SENT_BY_FENCES.format("giving", "giving") + "\nclaim w isnt 1\nskip m is 0 1\nclaim w is 5",
                        [(1, 0)], 1)

    def test_two(self):
        self.told_paper(SENT.format("plain", "plain"), [(0, 1), (1, 0)], 5)
        self.told_paper(SENT_AND_WAITED_FOR.format("loose", "plain"), [(0, 1), (1, 0)], 5)

    def test_six_that_could_be_picked(self):
        program = read(SIX)
        self.assertEqual(picks_of(program), [(0, 0), (0, 1), (0, 3), (1, 0), (1, 1), (1, 3)])
        self.told_paper(SIX, [(1, 0)], 1)

    def test_of_several_as_few_the_first(self):
        # The fence and the write behind it would each do.
        self.told_paper("boxes x y\nhand\nwrite x 5 plain\nfence taking\nwrite y 1 plain\nhand\nread r y taking\n"
                        "skip r is 0 2\nread s x plain\nclaim s is 5", [(0, 1)], 1)
        self.told_paper("boxes x y\nhand\nwrite x 5 plain\nwrite y 1 giving\nhand\nread r y plain\nfence giving\n"
                        "skip r is 0 2\nread s x plain\nclaim s is 5", [(1, 0)], 1)

    def test_none_that_is_enough(self):
        for text in ["boxes x\nhand\nclaim r is 1", CROSSWISE.format("plain", "plain") + "\nclaim r isnt 0",
                     "boxes x\nhand\nread r x plain\nclaim r is 1"]:
            program = read(text)
            self.assertIsNone(paper_of(program))
            self.assertEqual(ledger_of(by_picks(program, picks_of(program)))[0], "fails")
            for thing in ([], [(0, 0)], picks_of(program)):
                self.assertIs(is_paper(program, (thing, 1, [])), False)

    def test_seven_that_could_be_picked(self):
        for text in [SIX + "\nhand\nread r x loose", SIX + "\nhand\nread r x loose\nclaim r is 7",
                     SIX.replace("fence taking", "fence giving").replace("giving\nskip", "taking\nskip")
                     + "\nread t x plain",
                     "boxes x\n" + "\n".join(["hand\n" + "\n".join(["write x 1 plain"] * 4)] * 4)]:
            program = read(text)
            with self.assertRaises(TooMany) as caught:
                paper_of(program)
            self.assertEqual(caught.exception.many, 6)
            for many in (1, 2, 36):
                self.assertIs(is_paper(program, ([], many, [])), False)
        # Nothing is a paper of it, though this would be one.
        program = read("boxes x\nhand\n" + "\n".join(["write x 1 plain"] * 7))
        self.assertEqual(ledger_of(program), ("holds", 1))
        self.assertIs(is_paper(program, ([], 1, [])), False)
        program = read("boxes x\nhand\n" + "\n".join(["write x 1 plain"] * 6))
        self.assertIs(is_paper(program, ([], 1, [])), True)

    def test_bent_papers(self):
        program = read(SENT.format("plain", "plain"))
        picks, many, fails = paper_of(program)
        self.assertIs(is_paper(program, (picks, many, fails)), True)
        row, run = fails[2]
        bent = [
            (picks, many + 1, fails), (picks, many - 1, fails), (picks, None, fails), (picks, True, fails),
            (picks, float(many), fails), (picks, [many], fails), (picks, ("holds", many), fails),
            (picks[::-1], many, fails), (tuple(picks), many, fails), (picks[:1], many, fails), ([], many, fails),
            (picks[:1], many, fails[:1]), ([], many, []), ([(0, 0), (1, 0)], many, fails), (picks_of(program), many, fails),
            (picks, many, fails[:-1]), (picks, many, fails[1:]), (picks, many, fails[::-1]), (picks, many, fails * 2),
            (picks, many, tuple(fails)), (picks, many, []), (picks, many, None), (picks, many, fails + fails[-1:]),
            (picks, many, fails + [(picks, run)]), (picks, many, fails[:2] + fails[3:]),
            (picks, many, [fails[1], fails[0], *fails[2:]]),
            (picks, many), (picks, many, fails, fails), [picks, many, fails], (many, picks, fails), (fails, many, picks),
        ]
        for other in [(row, run, run), (row,), [row, run], (row, run[:-1]), (row, []), (row, run + run), (row, tuple(run)),
                      (tuple(row), run), ([], run), (row + row, run), (row[0], run), (run, row), (row, None), None,
                      (row, ("fails", run)), ([(1, 2)], run), *STRANGE, *[(thing, run) for thing in STRANGE],
                      *[(row, thing) for thing in STRANGE], *[([thing], run) for thing in STRANGE]]:
            bent.append((picks, many, [*fails[:2], other, *fails[3:]]))
        for thing in STRANGE:
            bent.extend([thing, (thing, many, fails), (picks, thing, fails), (picks, many, thing), ([thing], many, fails)])
        for thing in bent:
            self.assertIs(is_paper(program, thing), False, thing)
        self.assertIs(is_paper(program, (picks, many, fails)), True)

    def test_papers_that_are_not_told(self):
        # Enough, but not the first of as few; and other runs behind which claims fail.
        program = read(SIX.replace("read r y plain", "read r y loose"))
        picks, many, fails = paper_of(program)
        self.assertEqual((picks, fails[0][0]), ([(1, 0)], []))
        other = [(1, 1)]
        ledger = ledger_of(by_picks(program, other))
        self.assertEqual(ledger[0], "holds")
        self.assertIs(is_paper(program, (other, ledger[1], fails)), True)
        longer = fails[0][1] + [(0, 1)]
        self.assertIs(is_paper(program, (picks, many, [([], longer)])), True)
        self.assertIs(is_paper(program, ([(1, 0), (1, 1)], ledger[1], fails)), False)

    def test_what_is_told_is_the_askers_own(self):
        program = read(SENT.format("plain", "plain"))
        kept = copy.deepcopy(program)
        paper = paper_of(program=program)
        again = copy.deepcopy(paper)
        paper[2][1][0].clear()
        paper[2][1][1].clear()
        paper[0].clear()
        paper[2].clear()
        self.assertEqual(paper_of(program), again)
        thing = copy.deepcopy(again)
        self.assertIs(is_paper(thing=thing, program=program), True)
        self.assertEqual((program, thing), (kept, again))

    def test_of_small_programs(self):
        sorts = {}
        for program in small_programs():
            if len(picks_of(program)) > 6:
                continue
            paper = paper_of(program)
            by_all = ledger_of(by_picks(program, picks_of(program)))
            self.assertEqual(paper is None, by_all[0] == "fails")
            if paper is not None:
                self.assertIs(is_paper(program, paper), True)
                self.assertEqual(paper[0] == [], ledger_of(program)[0] == "holds")
                sorts[len(paper[0])] = sorts.get(len(paper[0]), 0) + 1
        self.assertGreater(sorts[0], 100)


if __name__ == "__main__":
    unittest.main()
