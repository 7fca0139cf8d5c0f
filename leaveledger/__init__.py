"""Leaveledger: who may do what, decided for worlds of any size from as much of them as is told."""
