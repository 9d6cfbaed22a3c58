"""A desk: the rows of a sheet, done to one wire and answered."""

from slipwire.codes import MOST
from slipwire.dumps import dump, event_text
from slipwire.errors import BadEnd, BadSlip, Ended, NoByte
from slipwire.figures import numbers_text
from slipwire.sheets import rows_in
from slipwire.wire import Wire


def yes_or_no(whether):
    return "yes" if whether else "no"


def or_dash(text):
    return "-" if text == "" else text


def number_or_dash(number):
    return "-" if number is None else str(number)


def do_send(wire, values):
    wire.send(values[1], values[2], values[3], values[4])
    return "done"


def do_bell(wire, values):
    wire.bell(values[1], values[2], values[3])
    return "done"


def do_close(wire, values):
    wire.close(values[1], values[2], code=values[3])
    return "done"


def do_go(wire, values):
    return str(wire.go(values[1], many=values[2]))


def do_come(wire, values):
    return or_dash(" / ".join([event_text(event) for event in wire.come(values[1], many=values[2])]))


def do_run(wire, values):
    return or_dash(" / ".join([f"{role} {event_text(event)}" for role, event in wire.run()]))


def do_bend(wire, values):
    wire.bend(values[1], values[2], values[3])
    return "done"


def do_break(wire, values):
    caller, keeper = wire.break_off()
    return f"{numbers_text(caller)} / {numbers_text(keeper)}"


def do_back(wire, values):
    return yes_or_no(wire.back())


def tell_state(wire, values):
    return wire.state(values[1], values[2])


def tell_codes(wire, values):
    own, other = wire.codes_of(values[1], values[2])
    return f"{number_or_dash(own)} {number_or_dash(other)}"


def tell_dead(wire, values):
    return yes_or_no(wire.is_dead(values[1]))


def tell_fault(wire, values):
    told = wire.fault(values[1])
    return "-" if told is None else f"{told[0]} {told[1]}"


def tell_way(wire, values):
    return or_dash(dump(wire.under_way(values[1])).replace("\n", " / "))


def tell_deeds(wire, values):
    return str(wire.deeds())


# By the first word of a row: what is done to the wire, or asked of it, and told.
ACTS = {
    "send": do_send, "bell": do_bell, "close": do_close, "go": do_go, "come": do_come, "run": do_run,
    "bend": do_bend, "break": do_break, "back": do_back, "state": tell_state, "codes": tell_codes,
    "dead": tell_dead, "fault": tell_fault, "way": tell_way, "deeds": tell_deeds,
}


def answers(text, *, most=MOST):
    """The list of answers to the rows of a sheet; refused with BadRow ahead of all."""
    rows = rows_in(text)
    wire = Wire(most=most)
    return [answer_to(wire, values) for values in rows]


def answer_to(wire, values):
    act = ACTS[values[0]]
    try:
        return act(wire, values)
    except Ended:
        return "refused Ended"
    except BadSlip:
        return "refused BadSlip"
    except BadEnd:
        return "refused BadEnd"
    except NoByte:
        return "refused NoByte"
