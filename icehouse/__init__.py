"""Icehouse: ice in cells, melting by its open faces."""
