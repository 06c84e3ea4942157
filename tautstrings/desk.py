"""The desk: takes calls one behind another and gives back what they answer."""

from tautstrings.chart import Chart
from tautstrings.pieces import first_touch, in_range, places_told
from tautstrings.reader import Reader
from tautstrings.words import reduced_word, word_of

MOST_MARKS = 16
MOST_TRACKS = 8
MOST_PLACES = 200

BAD_VALUE = -1
MARK_THERE = -2
NO_TRACK = -2
TOO_MANY = -3
TRACK_THERE = -4
MARK_ON_PIECE = -5


def answer_begin(chart, reader):
    chart.wipe()
    return [0]


def answer_mark(chart, reader):
    x = reader.number()
    y = reader.number()
    if not in_range(x, y):
        return [BAD_VALUE]
    if (x, y) in chart.marks:
        return [MARK_THERE]
    if len(chart.marks) >= MOST_MARKS:
        return [TOO_MANY]
    if len(chart.tracks) > 0:
        return [TRACK_THERE]
    return [chart.new_mark((x, y))]


def answer_track(chart, reader):
    places = places_told(reader.row(), 2)
    if places is None:
        return [BAD_VALUE]
    if len(chart.tracks) >= MOST_TRACKS or len(places) > MOST_PLACES:
        return [TOO_MANY]
    if first_touch(places, chart.marks) is not None:
        return [MARK_ON_PIECE]
    return [chart.new_track(places)]


def answer_touch(chart, reader):
    places = places_told(reader.row(), 2)
    if places is None:
        return [BAD_VALUE]
    found = first_touch(places, chart.marks)
    if found is None:
        return [0]
    return [1, found[0], found[1]]


def lengthen(chart, t, places):
    """Puts the longer row of places in the track's stead, unless that is refused."""
    if len(places) > MOST_PLACES:
        return [TOO_MANY]
    if first_touch(places, chart.marks) is not None:
        return [MARK_ON_PIECE]
    chart.tracks[t] = places
    return [len(places)]


def answer_more(chart, reader):
    t = reader.number()
    added = places_told(reader.row(), 1)
    if added is None:
        return [BAD_VALUE]
    if not chart.has_track(t):
        return [NO_TRACK]
    return lengthen(chart, t, chart.tracks[t] + added)


def answer_put(chart, reader):
    t = reader.number()
    i = reader.number()
    x = reader.number()
    y = reader.number()
    if not in_range(x, y):
        return [BAD_VALUE]
    if not chart.has_track(t):
        return [NO_TRACK]
    places = chart.tracks[t]
    if i < 0 or i > len(places) - 2:
        return [BAD_VALUE]
    return lengthen(chart, t, places[:i + 1] + [(x, y)] + places[i + 1:])


def answer_points(chart, reader):
    t = reader.number()
    if not chart.has_track(t):
        return [NO_TRACK]
    answer = [len(chart.tracks[t])]
    for x, y in chart.tracks[t]:
        answer.append(x)
        answer.append(y)
    return answer


def answer_word(chart, reader):
    t = reader.number()
    if not chart.has_track(t):
        return [NO_TRACK]
    letters = word_of(chart.tracks[t], chart.marks)
    return [len(letters)] + letters


def answer_reduced(chart, reader):
    t = reader.number()
    if not chart.has_track(t):
        return [NO_TRACK]
    letters = reduced_word(word_of(chart.tracks[t], chart.marks))
    return [len(letters)] + letters


CALLS = {
    0: answer_begin,
    1: answer_mark,
    2: answer_track,
    3: answer_touch,
    4: answer_more,
    5: answer_put,
    6: answer_points,
    7: answer_word,
    8: answer_reduced,
}


def answers(calls):
    """The answers to all calls, each with how many numbers it has before it."""
    chart = Chart()
    reader = Reader(calls)
    told = []
    while not reader.at_end():
        act = CALLS[reader.number()]
        answer = act(chart, reader)
        told.append(len(answer))
        told.extend(answer)
    return told
