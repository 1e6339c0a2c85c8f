"""Deeds as tuples, as the journal has them."""

from gripwood.errors import BadText


def done(shop, deed):
    """Does a deed in a workshop, and tells what its method tells."""
    name, *handed = deed
    match name:
        case "heap":
            return shop.heap(*handed)
        case "lay":
            return shop.lay(*handed)
        case "burn":
            return shop.burn(*handed)
        case "carve":
            return shop.carve(*handed)
        case "plug":
            return shop.plug(*handed)
        case "saw":
            return shop.saw(*handed)
        case "peg":
            return shop.peg(*handed)
        case "unpeg":
            return shop.unpeg(*handed)
        case "pull":
            return shop.pull(*handed)
        case "home":
            return shop.home(*handed)
        case "turn":
            return shop.turn(*handed)
        case "shift":
            return shop.shift(*handed)
        case "press":
            return shop.press(*handed)
        case "bar":
            return shop.bar(*handed)
        case "unbar":
            return shop.unbar(*handed)
        case "draft":
            return shop.draft(*handed)
    raise BadText(f"{name} is no deed")
