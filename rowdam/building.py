"""The station that stands for a row of a works."""

from rowdam.stations import JoinStation, KeepStation, OutStation, PourStation, ShareStation, TurnStation
from rowdam.windows import GapStation, WindowStation


def station_of(row):
    if row[0] == "keep":
        return KeepStation(row)
    if row[0] == "turn":
        return TurnStation(row)
    if row[0] == "share":
        return ShareStation(row)
    if row[0] == "pour":
        return PourStation(row)
    if row[0] in ("fixed", "slide"):
        return WindowStation(row)
    if row[0] == "gap":
        return GapStation(row)
    if row[0] == "join":
        return JoinStation(row)
    return OutStation(row)
