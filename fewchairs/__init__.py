"""Fewchairs: halls with few chairs, where the order of coming need not count."""
