"""Small programs, all graphs of which are told in several ways."""

from readsfrom.programtexts import read
from tests.test_agreement import MORE
from tests.test_rules import SMALL
from tests.things import MODES

STRONGEST = {"read": "taking", "wait": "taking", "write": "giving", "change": "both", "swap": "both", "grab": "both",
             "fence": "both"}

# Hands that write and look crosswise.
CROSSWISE = "boxes x y\nhand\nwrite x 1 {0}\nread r y {1}\nhand\nwrite y 1 {0}\nread r x {1}"
# The same, with something between that keeps them apart.
CROSSWISE_APART = ("boxes x y z\nhand\nwrite x 1 plain\nchange s z add 1 {0}\nread r y plain\n"
                   "hand\nwrite y 1 plain\nchange s z add 1 {0}\nread r x plain")
# A word sent by a mark, looked for or waited for.
SENT = ("boxes mark word\nhand\nwrite word 5 plain\nwrite mark 1 {0}\n"
        "hand\nread m mark {1}\nskip m is 0 2\nread w word plain\nclaim w is 5")
SENT_AND_WAITED_FOR = ("boxes mark word\nhand\nwrite word 5 plain\nwrite mark 1 {0}\n"
                       "hand\nwait m mark 1 {1}\nread w word plain\nclaim w is 5")
SENT_BY_FENCES = ("boxes mark word\nhand\nwrite word 5 plain\nfence {0}\nwrite mark 1 plain\n"
                  "hand\nread m mark plain\nfence {1}\nskip m is 0 1\nread w word plain")
# A word sent on by a third hand.
SENT_ON = ("boxes x y\nhand\nwrite x 1 {0}\nhand\nread r x {1}\nskip r is 0 1\nwrite y 1 {0}\n"
           "hand\nread r y {1}\nread s x plain")
TWO_LOOKS = "boxes x\nhand\nwrite x 1 {0}\nhand\nread r x {1}\nread s x {1}"
ADDING = "boxes x\nhand\nchange r x add 1 {0}\nhand\nchange r x add 1 {0}"
READ_AND_WRITTEN = "boxes x\nhand\nread r x {1}\nwrite x 1 {0}\nhand\nread r x {1}\nwrite x 1 {0}"
# Hands that keep one another out.
KEPT_OUT = "boxes x z\n" + "\n".join(["hand\ngrab g z 0 1 {1}\nread r x plain\nwrite x 1 plain\nwrite z 0 {0}"] * 2)
WAITING_IN_VAIN = "boxes x\nhand\nwait r x 1 plain\nhand\nread r x plain\nwrite x 2 plain"
# Where the hands take turns the wait may be too late.
WAITING_TOO_LATE = "boxes x\nhand\nwrite x 1 giving\nwrite x 2 giving\nhand\nwait r x 1 taking"

# More graphs than are gone through; and more even where hands take turns.
WRITING = "boxes x\n" + "\n".join(["hand\n" + "\n".join(["write x 1 plain"] * 4)] * 4)
ALL_ADDING = WRITING.replace("write x 1 plain", "change r x add 1 both")

PLAIN = [
    "boxes x\nhand",
    "boxes a b c d\nhand\nhand\nhand\nhand",
    "boxes x y\nhand\nhand\nread r x plain\nhand",
    "boxes x\nhand\nskip r is 0 1\nclaim r is 1\nclaim r is 0\nskip r isnt 0 8",
    "boxes x\nhand\nclaim r is 1\nwrite x 1 plain\nhand\nclaim r isnt 1",
    "boxes a b c\nhand\nwrite b 1 plain\nhand\nread r b plain",
    "boxes x\nhand\nfence both\nfence giving\nhand\nfence taking",
    "boxes x\nhand\nread r x plain\nhand\nread r x plain\nhand\nread r x plain\nhand\nwrite x 1 plain",
    "boxes x\nhand\nwrite x 1 plain\nhand\nwrite x 1 plain\nhand\nwrite x 1 plain\nhand\nread r x plain",
    "boxes x y\nhand\nread r x plain\nwrite y 1 plain\nhand\nread r y plain\nwrite x 1 plain\nhand\nread r x plain\n"
    "hand\nread r y plain",
    "boxes x\nhand\nchange r x add 1 loose\nhand\nchange r x add 1 loose\nhand\nchange r x add 1 loose",
    "boxes x\nhand\nswap r x 0 1 both\nclaim r is 0\nhand\nswap r x 0 1 both\nclaim r is 0\nhand\nread r x plain",
    "boxes x\nhand\ngrab r x 1 2 loose\nhand\ngrab r x 0 1 loose\nhand\ngrab r x 0 3 loose",
    "boxes x\nhand\nwait r x 1 plain\nclaim r is 2\nhand\nread r x plain\nclaim r is 0\nhand\nwrite x 1 plain",
    "boxes x\nhand\ngrab r x 0 1 both\nhand\nread r x plain\nread s x plain\nhand\nswap r x 0 2 loose",
    "boxes x y\nhand\nwait r x 1 plain\nwrite y 1 plain\nhand\nwait r y 1 plain\nwrite x 1 plain",
    WAITING_IN_VAIN,
    WAITING_TOO_LATE,
    # The first hand reads what the second one writes, which waits for what the third one comes to write.
    "boxes x y z\nhand\nread r x plain\nhand\nwait s y 1 plain\nwrite x 1 plain\n"
    "hand\nwrite z 1 plain\nwrite y 1 plain",
    "boxes x y\nhand\nread r y plain\nhand\nwait s x 3 plain\nwrite y 1 plain\n"
    "hand\nwrite x 1 plain\nchange q x add 2 loose",
    "boxes w x y\nhand\nread r y plain\nhand\nwait s w 1 plain\nwrite y 1 plain\n"
    "hand\nwrite x 1 plain\nread t x plain\nwrite w t plain",
    "boxes x y z\nhand\nread r x plain\nhand\ngrab s y 1 2 loose\nhand\nwait t y 2 plain\nwrite x 1 plain\n"
    "hand\nwrite z 1 plain\nchange t y put 1 loose",
    # A hand may be passed until what it waits for comes again, or is taken away.
    "boxes x\nhand\nwait r x 0 plain\nhand\nwrite x 1 plain\nwrite x 0 plain",
    "boxes x\nhand\ngrab r x 0 1 loose\nhand\nchange q x put 0 loose\nchange q x put 5 loose",
]

FORMS = [CROSSWISE, SENT, SENT_AND_WAITED_FOR, SENT_ON, TWO_LOOKS, ADDING, READ_AND_WRITTEN]


def drawn(seed):
    """A function that tells one of several things, by a row of numbers that hangs on the seed alone."""
    state = [seed * 7919 + 1]

    def one_of(things):
        state[0] = (state[0] * 6364136223846793005 + 1442695040888963407) % 2 ** 64
        return things[(state[0] >> 33) % len(things)]

    return one_of


def drawn_program(seed, most=6):
    """A program of at most so many deeds, as the seed has it."""
    one_of = drawn(seed)
    boxes = one_of([["x"], ["x"], ["x", "y"]])
    hands = []
    for _ in range(one_of([1, 2, 2, 3, 3, 4])):
        left = most - sum(len(deeds) for deeds in hands)
        hands.append([drawn_deed(one_of, boxes) for _ in range(min(left, one_of([1, 2, 2, 3])))])
    if one_of([True, False]):
        hands[-1].append(("claim", "r", one_of(["is", "isnt", "isnt"]), one_of([0, 1, 2])))
    if one_of([True, False, False]):
        hands = [list(hands[0]) if sum(len(deeds) for deeds in hands) <= most else deeds for deeds in hands[:2]]
    return boxes, hands


def drawn_deed(one_of, boxes):
    sort = one_of(["read", "read", "write", "write", "change", "swap", "grab", "wait", "fence", "skip", "claim"])
    mode = one_of([one_of(MODES[sort]), STRONGEST[sort]]) if sort in MODES else None
    own, box, number = one_of(["r", "s"]), one_of(boxes), one_of([0, 1, 2])
    what = one_of([1, 2, 0, "r", "s"])
    return {
        "read": ("read", own, box, mode),
        "write": ("write", box, what, mode),
        "change": ("change", own, box, one_of(["add", "put"]), what, mode),
        "swap": ("swap", own, box, number, what, mode),
        "wait": ("wait", own, box, number, mode),
        "grab": ("grab", own, box, number, what, mode),
        "fence": ("fence", mode),
        "skip": ("skip", own, one_of(["is", "isnt"]), number, one_of([1, 2, 3])),
        "claim": ("claim", own, one_of(["is", "isnt"]), number),
    }[sort]


def small_programs():
    """Programs whose graphs are few enough to be grown."""
    told = [read(text) for text in PLAIN + SMALL + MORE]
    told += [read(form.format(*modes)) for form in FORMS for modes in (("plain", "plain"), ("giving", "taking"))
             if form != ADDING]
    told += [read(ADDING.format(mode)) for mode in ("loose", "both")]
    return told + [drawn_program(seed) for seed in range(400)]
