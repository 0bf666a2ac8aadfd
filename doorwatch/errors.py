"""The refusals of the program."""


class DoorError(ValueError):
    pass


class NoZone(DoorError):
    pass


class NoWay(DoorError):
    pass


class NoDeed(DoorError):
    pass


class NoText(DoorError):
    pass
