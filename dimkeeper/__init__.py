"""Dimkeeper: the least notebook with which a promise is kept in a world that is seen dimly."""
