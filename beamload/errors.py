"""The refusals of the program, one error class for each."""


class BeamError(ValueError):
    pass


class NoNumber(BeamError):
    pass


class NoLoad(BeamError):
    pass


class NoBeam(BeamError):
    pass


class OffBeam(BeamError):
    pass
