"""Asifforever: states drawn as if their system had run for ever."""
