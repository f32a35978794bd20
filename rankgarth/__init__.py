"""Rankgarth: play without end, and who wins it."""
