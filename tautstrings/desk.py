"""The desk: takes calls one behind another and gives back what they answer."""

from tautstrings.chart import Chart
from tautstrings.cord import string_places, string_touches
from tautstrings.courses import course_told, sailed_touches
from tautstrings.measures import measure_of, rates_told
from tautstrings.pieces import first_touch, in_range, places_told
from tautstrings.reader import Reader
from tautstrings.words import reduced_word, winding, word_of

MOST_MARKS = 16
MOST_TRACKS = 8
MOST_PLACES = 200

BAD_VALUE = -1
MARK_THERE = -2
NO_TRACK = -2
TOO_MANY = -3
TRACK_THERE = -4
MARK_ON_PIECE = -5
ENDS_UNLIKE = -7


def answer_begin(chart, reader):
    chart.wipe()
    return [0]


def answer_mark(chart, reader):
    x = reader.number()
    y = reader.number()
    if not in_range(x, y):
        return [BAD_VALUE]
    if (x, y) in chart.marks:
        return [MARK_THERE]
    if len(chart.marks) >= MOST_MARKS:
        return [TOO_MANY]
    if len(chart.tracks) > 0:
        return [TRACK_THERE]
    return [chart.new_mark((x, y))]


def has_room(chart, places):
    """Whether there may be one more track, and it may have so many places."""
    return len(chart.tracks) < MOST_TRACKS and len(places) <= MOST_PLACES


def answer_track(chart, reader):
    places = places_told(reader.row(), 2)
    if places is None:
        return [BAD_VALUE]
    if not has_room(chart, places):
        return [TOO_MANY]
    if first_touch(places, chart.marks) is not None:
        return [MARK_ON_PIECE]
    return [chart.new_track(places)]


def answer_touch(chart, reader):
    places = places_told(reader.row(), 2)
    if places is None:
        return [BAD_VALUE]
    found = first_touch(places, chart.marks)
    if found is None:
        return [0]
    return [1, found[0], found[1]]


def lengthen(chart, t, places):
    """Puts the longer row of places in the track's stead, unless that is refused."""
    if len(places) > MOST_PLACES:
        return [TOO_MANY]
    if first_touch(places, chart.marks) is not None:
        return [MARK_ON_PIECE]
    chart.tracks[t] = places
    return [len(places)]


def answer_more(chart, reader):
    t = reader.number()
    added = places_told(reader.row(), 1)
    if added is None:
        return [BAD_VALUE]
    if not chart.has_track(t):
        return [NO_TRACK]
    return lengthen(chart, t, chart.tracks[t] + added)


def answer_put(chart, reader):
    t = reader.number()
    i = reader.number()
    x = reader.number()
    y = reader.number()
    if not in_range(x, y):
        return [BAD_VALUE]
    if not chart.has_track(t):
        return [NO_TRACK]
    places = chart.tracks[t]
    if i < 0 or i > len(places) - 2:
        return [BAD_VALUE]
    return lengthen(chart, t, places[:i + 1] + [(x, y)] + places[i + 1:])


def counted_places(places):
    answer = [len(places)]
    for x, y in places:
        answer.append(x)
        answer.append(y)
    return answer


def answer_points(chart, reader):
    t = reader.number()
    if not chart.has_track(t):
        return [NO_TRACK]
    return counted_places(chart.tracks[t])


def answer_word(chart, reader):
    t = reader.number()
    if not chart.has_track(t):
        return [NO_TRACK]
    letters = word_of(chart.tracks[t], chart.marks)
    return [len(letters)] + letters


def reduced_letters(chart, t):
    return reduced_word(word_of(chart.tracks[t], chart.marks))


def answer_reduced(chart, reader):
    t = reader.number()
    if not chart.has_track(t):
        return [NO_TRACK]
    letters = reduced_letters(chart, t)
    return [len(letters)] + letters


def answer_string(chart, reader):
    t = reader.number()
    if not chart.has_track(t):
        return [NO_TRACK]
    touches = string_touches(chart.tracks[t], chart.marks)
    answer = [len(touches)]
    for touch in touches:
        answer.extend([touch.place[0], touch.place[1], touch.mark, touch.side, touch.halves, touch.just])
    return answer


def answer_alike(chart, reader):
    t = reader.number()
    u = reader.number()
    if not (chart.has_track(t) and chart.has_track(u)):
        return [NO_TRACK]
    one = chart.tracks[t]
    other = chart.tracks[u]
    if one[0] != other[0] or one[-1] != other[-1]:
        return [ENDS_UNLIKE]
    return [1 if reduced_letters(chart, t) == reduced_letters(chart, u) else 0]


def answer_sails(chart, reader):
    t = reader.number()
    course = course_told(reader.row(), len(chart.marks))
    if course is None:
        return [BAD_VALUE]
    if not chart.has_track(t):
        return [NO_TRACK]
    taken = sailed_touches(chart.tracks[t], course, chart.marks)
    return [1 if len(taken) == len(course) else 0, len(taken)] + taken


def answer_wind(chart, reader):
    t = reader.number()
    m = reader.number()
    if not 0 <= m < len(chart.marks):
        return [BAD_VALUE]
    if not chart.has_track(t):
        return [NO_TRACK]
    places = chart.tracks[t]
    if places[0] != places[-1]:
        return [ENDS_UNLIKE]
    return [0, winding(places, chart.marks[m])]


def made_from_tracks(chart, places):
    """Makes a new track out of pieces that tracks have already, so that no mark can lie on them."""
    if not has_room(chart, places):
        return [TOO_MANY]
    return [chart.new_track(places)]


def answer_reverse(chart, reader):
    t = reader.number()
    if not chart.has_track(t):
        return [NO_TRACK]
    return made_from_tracks(chart, list(reversed(chart.tracks[t])))


def answer_join(chart, reader):
    t = reader.number()
    u = reader.number()
    if not (chart.has_track(t) and chart.has_track(u)):
        return [NO_TRACK]
    if chart.tracks[t][-1] != chart.tracks[u][0]:
        return [ENDS_UNLIKE]
    return made_from_tracks(chart, chart.tracks[t] + chart.tracks[u][1:])


def answer_part(chart, reader):
    t = reader.number()
    i = reader.number()
    j = reader.number()
    if not chart.has_track(t):
        return [NO_TRACK]
    if not 0 <= i < j < len(chart.tracks[t]):
        return [BAD_VALUE]
    return made_from_tracks(chart, chart.tracks[t][i:j + 1])


def answer_measure(chart, reader):
    t = reader.number()
    rates = rates_told(reader.row())
    if rates is None:
        return [BAD_VALUE]
    if not chart.has_track(t):
        return [NO_TRACK]
    places = chart.tracks[t]
    return [0, measure_of(places, rates), measure_of(string_places(places, chart.marks), rates)]


def answer_marks(chart, reader):
    return counted_places(chart.marks)


CALLS = {
    0: answer_begin,
    1: answer_mark,
    2: answer_track,
    3: answer_touch,
    4: answer_more,
    5: answer_put,
    6: answer_points,
    7: answer_word,
    8: answer_reduced,
    9: answer_string,
    10: answer_alike,
    11: answer_sails,
    12: answer_wind,
    13: answer_reverse,
    14: answer_join,
    15: answer_part,
    16: answer_measure,
    17: answer_marks,
}


def answers(calls):
    """The answers to all calls, each with how many numbers it has before it."""
    chart = Chart()
    reader = Reader(calls)
    told = []
    while not reader.at_end():
        act = CALLS[reader.number()]
        answer = act(chart, reader)
        told.append(len(answer))
        told.extend(answer)
    return told
