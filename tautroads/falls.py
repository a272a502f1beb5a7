"""Falls: how much less a road's length may be, so that its net is still taut."""

from tautroads.heights import check_taut
from tautroads.least import least_in
from tautroads.nets import check_net, check_road, way_length


def fall(net, number):
    """Tell ("fall", N, WAY, HEIGHTS), or ("free", LOT) where no ring goes by the road.

    Refuse NoNet, NoRoad, then NoTaut.
    """
    check_net(net)
    check_road(net, number)
    check_taut(net)
    start, end, length = net[1][number]
    back = least_in(net, end, start)
    if back[0] == "none":
        return ("free", back[1])
    # The least way back comes to the road's start only at its end, so the ring begins nowhere twice. Its
    # heights rise by just its length, which is what the road may fall below 0: they suit the fallen road too.
    ring = [number] + back[1]
    return ("fall", way_length(net, ring), ring, back[2])
