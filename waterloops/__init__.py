"""Water in loops: flows, pressures, energies, throttling and warmth of networks of pipes, valves and pumps."""
