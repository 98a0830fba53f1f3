"""Deals over typed things kept at several sites: the modules of this folder hold all names."""
