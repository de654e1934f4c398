"""Thinwood: great trees and rows kept thin."""
