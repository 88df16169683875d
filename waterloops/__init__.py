"""Water in loops: the flows, pressures and energies of networks of pipes, valves and pumps."""
