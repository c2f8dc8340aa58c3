"""What becomes of a pattern, and what it is at any later generation."""

from lifenames.plane import first_place, generation_after, shape_of, x_of, y_of
from lifenames.refusals import FateUnknown, NotObject, TooManyCells, TooMuchWork

LAST_GENERATION = 128
MOST_WORK = 20000
MOST_CELLS_LATER = 1024

# What a fate is, as the number that is answered for it.
GONE = 0
COMES_AGAIN = 1
UNDECIDED = 2


# The generations that were gone through, and the fate that was found. The generation by which it was found is
# among them; tail, period and move (as one number) are 0 where the pattern doesn't come again.
class Course:
    def __init__(self, generations, ending, tail, move):
        self.generations = generations
        self.ending = ending
        self.tail = tail
        self.period = len(generations) - 1 - tail if ending == COMES_AGAIN else 0
        self.move = move


def course_of(rule, pattern):
    generations = [pattern]
    seen = {}
    work = 0
    while True:
        last = generations[-1]
        number = len(generations) - 1
        if len(last) == 0:
            return Course(generations, GONE, 0, 0)
        shape = shape_of(last)
        if shape in seen:
            tail = seen[shape]
            return Course(generations, COMES_AGAIN, tail, first_place(last) - first_place(generations[tail]))
        if number == LAST_GENERATION:
            return Course(generations, UNDECIDED, 0, 0)
        seen[shape] = number
        work += len(last)
        if work > MOST_WORK:
            raise TooMuchWork()
        generations.append(generation_after(rule, last))


# The course of an object: its generations from 0 to before its period are its phases.
def object_course(rule, pattern):
    course = course_of(rule, pattern)
    if course.ending != COMES_AGAIN or course.tail != 0:
        raise NotObject()
    return course


def phases_of(course):
    return course.generations[:course.period]


def fate_told(course):
    if course.ending == GONE:
        return [GONE, len(course.generations) - 1]
    if course.ending == COMES_AGAIN:
        return [COMES_AGAIN, course.tail, course.period, x_of(course.move), y_of(course.move)]
    return [UNDECIDED]


# Which of the generations gone through is, but for a number of moves, generation k.
def known_number(course, k):
    if course.ending == COMES_AGAIN and k >= course.tail:
        return course.tail + (k - course.tail) % course.period
    if course.ending == GONE:
        return min(k, len(course.generations) - 1)
    if course.ending == UNDECIDED and k > LAST_GENERATION:
        raise FateUnknown()
    return k


def rounds_before(course, k):
    if course.ending == COMES_AGAIN and k >= course.tail:
        return (k - course.tail) // course.period
    return 0


def later_told(course, k):
    pattern = course.generations[known_number(course, k)]
    if len(pattern) > MOST_CELLS_LATER:
        raise TooManyCells()
    # The way after many rounds may be longer than a place's one number can hold: x and y are moved by themselves.
    rounds = rounds_before(course, k)
    far_x = rounds * x_of(course.move)
    far_y = rounds * y_of(course.move)
    told = [len(pattern)]
    for place, state in pattern.items():
        told.extend([x_of(place) + far_x, y_of(place) + far_y, state])
    return told
