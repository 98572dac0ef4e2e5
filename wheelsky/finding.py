"""Finding which one of several suspects makes a work go wrong."""

from wheelsky.deeds import is_deed
from wheelsky.errors import NoName
from wheelsky.forms import is_list_within, is_name, require
from wheelsky.looks import MOST_DIALS, MOST_SUSPECTS, look_plan
from wheelsky.ratios import is_fraction
from wheelsky.shafts import Work
from wheelsky.workshop import Workshop, built, replay


def dial_sets(work, suspects, shafts, *, by=(1, 1)):
    """Return for each shaft the numbers of the suspects under which it is wrong."""
    _require_forms(work, suspects, shafts)
    require(is_fraction(by), "by")
    _refuse_unknown(shafts, work.shafts())
    sound = _turned(work, [], by)
    bad = [_turned(work, [suspect], by) for suspect in suspects]
    return [_wrong_under(shaft, sound, bad) for shaft in shafts]


def find_bad(work, suspects, shafts, shop, *, by=(1, 1)):
    """Return the group of suspects that looks at the shop leave, and the number of the looks."""
    _require_forms(work, suspects, shafts)
    require(isinstance(shop, Workshop), "shop")
    require(is_fraction(by), "by")
    plan = look_plan(len(suspects), dial_sets(work, suspects, shafts, by=by))
    _refuse_unknown(shafts, [shaft for shaft, _ in shop.state()[2]])
    sound = _turned(work, [], by)
    shop.turn(work.driver, by)
    looks = 0
    while plan[0] == "look":
        _, number, wrong, right = plan
        shaft = shafts[number]
        plan = right if shop.look(shaft) == sound.amount(shaft) else wrong
        looks += 1
    return (plan[1], looks)


def _require_forms(work, suspects, shafts):
    require(isinstance(work, Work), "work")
    require(_are_suspects(suspects), "suspects")
    require(is_list_within(shafts, 0, MOST_DIALS) and all([is_name(shaft) for shaft in shafts]), "shafts")


def _are_suspects(value):
    if not is_list_within(value, 1, MOST_SUSPECTS):
        return False
    return all([is_deed(deed) and deed[0] in ("break", "recut") for deed in value])


def _refuse_unknown(shafts, known):
    for shaft in shafts:
        if shaft not in known:
            raise NoName(shaft)


def _turned(work, deeds, by):
    """Return a workshop built of the work, after these deeds and a turn of the driver."""
    return replay(built(work).records() + deeds + [("turn", work.driver, by)])


def _wrong_under(shaft, sound, bad):
    """Return the numbers of the workshops in which the amount of the shaft is not the sound one."""
    return tuple([number for number, shop in enumerate(bad) if shop.amount(shaft) != sound.amount(shaft)])
