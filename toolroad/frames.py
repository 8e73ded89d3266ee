"""Frames: tuples of rows that shift, turn and flip what is told within them."""

from toolroad.places import added, difference, heading_of, mirrored, turned

MOST_FRAMES = 8


def led_by(frame, place):
    """Where one frame leads a place."""
    if frame[0] == "shift":
        return added(place, (frame[1], frame[2]))
    if frame[0] == "turn":
        return turned(place, heading_of(frame[1], frame[2]))
    return mirrored(place)


def led_back(frame, place):
    """The place that one frame leads to this one."""
    if frame[0] == "shift":
        return difference((frame[1], frame[2]), place)
    if frame[0] == "turn":
        return turned(place, mirrored(heading_of(frame[1], frame[2])))
    return mirrored(place)


def led_place(frames, place):
    """Where frames lead a place: the last one first."""
    for frame in reversed(frames):
        place = led_by(frame, place)
    return place


def led_direction(frames, place):
    """Where frames lead a direction: shifts are left out."""
    return led_place([frame for frame in frames if frame[0] != "shift"], place)


def led_from(frames, place):
    """The place that frames lead to this one."""
    for frame in frames:
        place = led_back(frame, place)
    return place


def is_about(frames):
    """Whether frames are turned about: left is right within them."""
    return len([frame for frame in frames if frame[0] == "flip"]) % 2 == 1
