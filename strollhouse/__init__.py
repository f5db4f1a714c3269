"""Strollhouse: where a stroller is who takes doors as often as their weights tell."""
