"""Toldparts: numbers as rows of told parts in order."""
