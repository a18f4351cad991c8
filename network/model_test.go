package network_test

import (
	"math/rand/v2"
	"slices"
	"testing"

	"farshelf/api"
	"farshelf/network"
)

// model is a network in another form than that of package api: tables of the
// machines that are down and of the pairs that are cut, in both directions.
type model struct {
	packets []api.Packet
	cut     [api.MaxMachines][api.MaxMachines]bool
	crashed [api.MaxMachines]bool
	sent    int
}

// modelOf returns the model of a valid network.
func modelOf(n api.Network) *model {
	m := &model{packets: slices.Clone(n.InFlight), sent: n.Sent}
	for _, pair := range n.Partitions {
		m.cut[pair[0]][pair[1]], m.cut[pair[1]][pair[0]] = true, true
	}
	for _, machine := range n.Down {
		m.crashed[machine] = true
	}
	return m
}

// network returns the network of a model.
func (m *model) network() api.Network {
	n := api.Network{InFlight: slices.Clone(m.packets), Sent: m.sent}
	for a := range m.cut {
		for b := a + 1; b < len(m.cut); b++ {
			if m.cut[a][b] {
				n.Partitions = append(n.Partitions, [2]int{a, b})
			}
		}
	}
	for machine, is := range m.crashed {
		if is {
			n.Down = append(n.Down, machine)
		}
	}
	return n
}

// step applies a valid event. It names the first reason not to do so.
func (m *model) step(e api.Event) ([]api.Packet, int) {
	room := len(m.packets) < api.MaxPackets
	if e.Kind == api.EvDeliver || e.Kind == api.EvDrop || e.Kind == api.EvDuplicate {
		if e.N >= len(m.packets) {
			return nil, api.ErrNotFound
		}
		return m.stepWith(e.N, e.Kind, room)
	}
	switch {
	case e.Kind == api.EvSend && m.crashed[e.A]:
		return nil, api.ErrUnavailable
	case e.Kind == api.EvSend && (!room || m.sent == api.MaxValue):
		return nil, api.ErrNoSpace
	case e.Kind == api.EvSend:
		m.packets = append(m.packets, api.Packet{From: e.A, To: e.B, Seq: m.sent + 1, Payload: e.Data})
		m.sent = m.sent + 1
	case e.Kind == api.EvPartition || e.Kind == api.EvHeal:
		m.cut[e.A][e.B] = e.Kind == api.EvPartition
		m.cut[e.B][e.A] = e.Kind == api.EvPartition
	default:
		m.crashed[e.A] = e.Kind == api.EvCrash
	}
	return nil, api.OK
}

// stepWith applies an event of the given kind to packet i. It builds the new
// list of packets from the beginning.
func (m *model) stepWith(i, kind int, room bool) ([]api.Packet, int) {
	chosen := m.packets[i]
	unreachable := m.crashed[chosen.From] || m.crashed[chosen.To] || m.cut[chosen.From][chosen.To]
	if kind == api.EvDeliver && unreachable {
		return nil, api.ErrUnavailable
	}
	if kind == api.EvDuplicate && !room {
		return nil, api.ErrNoSpace
	}
	var packets []api.Packet
	for k, p := range m.packets {
		if k != i {
			packets = append(packets, p)
		} else if kind == api.EvDuplicate {
			packets = append(packets, p, p)
		}
	}
	m.packets = packets
	if kind == api.EvDeliver {
		return []api.Packet{chosen}, api.OK
	}
	return nil, api.OK
}

// outside tells whether a number is less than least or greater than greatest.
func outside(number, least, greatest int) bool { return number < least || number > greatest }

// faults collects faults in the order in which they are checked.
type faults []api.Fault

// add adds a fault if there is a reason.
func (l *faults) add(reason bool, code, index int) {
	if reason {
		*l = append(*l, api.Fault{Code: code, Index: index})
	}
}

// first returns the fault that the document wants.
func (l faults) first() api.Fault {
	return append(l, success)[0]
}

// modelFaults returns all faults of a network.
func modelFaults(n api.Network) faults {
	var all faults
	all.add(len(n.InFlight) > 120, api.ErrTooMany, 0)
	all.add(outside(n.Sent, 0, 1000000), api.ErrRange, -1)
	for i, p := range n.InFlight {
		all.add(outside(p.From, 0, 8) || outside(p.To, 0, 8) || outside(p.Seq, 1, n.Sent), api.ErrRange, i)
		all.add(len(p.Payload) > 200, api.ErrTooLarge, i)
	}
	// The position of a pair in the order of all pairs is a number of two digits.
	last := -1
	for i, pair := range n.Partitions {
		bad := outside(pair[0], 0, 8) || outside(pair[1], 0, 8)
		all.add(bad, api.ErrRange, i)
		if !bad {
			position := 10*pair[0] + pair[1]
			all.add(pair[1]-pair[0] < 1 || position <= last, api.ErrMalformed, i)
			last = position
		}
	}
	for i, machine := range n.Down {
		all.add(outside(machine, 0, 8), api.ErrRange, i)
		all.add(i > 0 && machine <= n.Down[max(i, 1)-1], api.ErrMalformed, i)
	}
	return all
}

// modelEventFaults returns all faults of an event.
func modelEventFaults(e api.Event, index int) faults {
	var all faults
	all.add(outside(e.Kind, 1, 8), api.ErrKind, index)
	all.add(outside(e.A, 0, 8) || outside(e.B, 0, 8) || outside(e.N, 0, 1000000), api.ErrRange, index)
	all.add((e.Kind == 5 || e.Kind == 6) && e.A == e.B, api.ErrRange, index)
	all.add(len(e.Data) > 200, api.ErrTooLarge, index)
	return all
}

// modelStep returns the results of Step.
func modelStep(n api.Network, e api.Event) (api.Network, []api.Packet, int, api.Fault) {
	all := append(modelFaults(n), modelEventFaults(e, -1)...)
	if fault := all.first(); fault != success {
		return api.Network{}, nil, 0, fault
	}
	m := modelOf(n)
	delivered, code := m.step(e)
	return m.network(), delivered, code, success
}

// modelRun returns the results of Run for at most MaxEvents events.
func modelRun(l []api.Event) (api.Network, []api.Packet, []int, api.Fault) {
	var m model
	var delivered []api.Packet
	var codes []int
	for i, e := range l {
		if fault := modelEventFaults(e, i).first(); fault != success {
			return api.Network{}, nil, nil, fault
		}
		packets, code := m.step(e)
		delivered, codes = append(delivered, packets...), append(codes, code)
	}
	return m.network(), delivered, codes, success
}

// grower makes networks and events, the same ones in each run.
type grower struct{ source *rand.Rand }

// newGrower returns a grower of its own sequence.
func newGrower(sequence uint64) grower {
	return grower{rand.New(rand.NewPCG(10, sequence))}
}

// machine returns the number of a machine.
func (g grower) machine() int { return g.source.IntN(api.MaxMachines) }

// chance tells whether an event of the given percentage happens.
func (g grower) chance(percent int) bool { return g.source.IntN(100) < percent }

// payload returns up to 200 bytes, mostly few.
func (g grower) payload() []byte {
	length := g.source.IntN(4)
	if g.chance(5) {
		length = g.source.IntN(api.MaxFileBytes + 1)
	}
	bytes := make([]byte, length)
	for i := range bytes {
		bytes[i] = byte(g.source.IntN(256))
	}
	return bytes
}

// network returns a valid network.
func (g grower) network() api.Network {
	n := api.Network{Sent: g.pick(1, 5, 130, api.MaxValue-1, api.MaxValue)}
	count := g.pick(0, 1, 2, 3, 6, api.MaxPackets-1, api.MaxPackets)
	for range count {
		n.InFlight = append(n.InFlight, api.Packet{From: g.machine(), To: g.machine(), Seq: 1 + g.source.IntN(n.Sent), Payload: g.payload()})
	}
	density := g.pick(0, 10, 50, 90, 100)
	for _, pair := range allPairs() {
		if g.chance(density) {
			n.Partitions = append(n.Partitions, pair)
		}
	}
	density = g.pick(0, 0, 10, 50, 100)
	for _, machine := range allMachines() {
		if g.chance(density) {
			n.Down = append(n.Down, machine)
		}
	}
	return n
}

// pick returns one of the numbers.
func (g grower) pick(numbers ...int) int { return numbers[g.source.IntN(len(numbers))] }

// odd returns a number that is often outside the limits.
func (g grower) odd() int {
	return g.pick(-1<<63, -1, 0, 1, 8, 9, 120, api.MaxValue, api.MaxValue+1, 1<<32, 1<<63-1)
}

// spoil changes a place of a network, mostly in a way that makes it invalid.
func (g grower) spoil(n *api.Network) {
	packets, pairs, machines := len(n.InFlight), len(n.Partitions), len(n.Down)
	switch g.source.IntN(12) {
	case 0:
		n.InFlight = slices.Concat(n.InFlight, full(120).InFlight)
	case 1:
		n.Sent = g.odd()
	case 2, 3, 4, 5:
		if packets > 0 {
			p := &n.InFlight[g.source.IntN(packets)]
			field := []*int{&p.From, &p.To, &p.Seq, nil}[g.source.IntN(4)]
			if field != nil {
				*field = g.odd()
			} else {
				p.Payload = make([]byte, g.pick(200, 201, 202, 1000))
			}
		}
	case 6:
		n.Partitions = slices.Insert(n.Partitions, g.source.IntN(pairs+1), [2]int{g.machine(), g.machine()})
	case 7, 8:
		if pairs > 0 {
			n.Partitions[g.source.IntN(pairs)][g.source.IntN(2)] = g.pick(g.machine(), g.odd())
		}
	case 9:
		n.Down = slices.Insert(n.Down, g.source.IntN(machines+1), g.machine())
	default:
		if machines > 0 {
			n.Down[g.source.IntN(machines)] = g.pick(g.machine(), g.odd())
		}
	}
}

// event returns a valid event for a network with so many packets in flight.
func (g grower) event(packets int) api.Event {
	e := api.Event{Kind: 1 + g.source.IntN(8), A: g.machine(), B: g.machine(), N: g.source.IntN(packets + 1)}
	if g.chance(50) {
		e.Data = g.payload()
	}
	if (e.Kind == api.EvPartition || e.Kind == api.EvHeal) && e.A == e.B {
		e.A = (e.B + 1 + g.source.IntN(api.MaxMachines-1)) % api.MaxMachines
	}
	return e
}

// spoilEvent changes a field of an event, mostly in a way that makes it invalid.
func (g grower) spoilEvent(e *api.Event) {
	switch g.source.IntN(6) {
	case 0:
		e.Kind = g.odd()
	case 1:
		e.A = g.odd()
	case 2:
		e.B = g.odd()
	case 3:
		e.A = e.B
	case 4:
		e.N = g.odd()
	case 5:
		e.Data = make([]byte, g.pick(200, 201, 202, 1000))
	}
}

// situation is a network with an event.
type situation struct {
	network api.Network
	event   api.Event
}

// situations returns n networks with events. So many of a hundred are spoiled,
// some in several places.
func situations(n, percent int) []situation {
	g := newGrower(uint64(percent))
	var all []situation
	for range n {
		s := situation{network: g.network()}
		s.event = g.event(len(s.network.InFlight))
		for g.chance(percent) {
			if g.chance(30) {
				g.spoilEvent(&s.event)
			} else {
				g.spoil(&s.network)
			}
		}
		all = append(all, s)
	}
	return all
}

// runs returns n lists of events. So many of a hundred have an event that is
// spoiled.
func runs(n, percent int) [][]api.Event {
	g := newGrower(1000 + uint64(percent))
	var all [][]api.Event
	for range n {
		var events []api.Event
		length := g.pick(0, 1, 2, 10, 50, api.MaxEvents)
		wanted, packets := g.pick(0, api.EvSend, api.EvDuplicate, api.EvCrash), g.pick(2, 5, 119)
		for range length {
			e := g.event(packets)
			if wanted > 0 && g.chance(60) && (e.Kind <= api.EvDuplicate || e.Kind >= api.EvCrash) {
				e.Kind = wanted
			}
			events = append(events, e)
		}
		for length > 0 && g.chance(percent) {
			g.spoilEvent(&events[g.source.IntN(length)])
		}
		all = append(all, events)
	}
	return all
}

// TestModelOfStep compares Validate and Step with the model, and checks that a
// network is unchanged by an event that has another code than OK.
func TestModelOfStep(t *testing.T) {
	seen := map[[2]int]int{}
	check := func(s situation) {
		t.Helper()
		if got, want := network.Validate(s.network), modelFaults(s.network).first(); got != want {
			t.Fatalf("Validate(%v) = %v, want %v", s.network, got, want)
		}
		n, delivered, code, fault := network.Step(s.network, s.event)
		got, want := text(n, delivered, code, fault), text(modelStep(s.network, s.event))
		if got != want {
			t.Fatalf("Step(%v, %v) = %s, want %s", s.network, s.event, got, want)
		}
		if code != api.OK && text(n) != text(s.network) {
			t.Fatalf("Step(%v, %v) with code %d changed the network to %v", s.network, s.event, code, n)
		}
		if fault == success {
			seen[[2]int{s.event.Kind, code}]++
		}
	}
	for _, s := range slices.Concat(situations(6000, 0), situations(6000, 40), situations(3000, 70)) {
		check(s)
	}
	expected := [][2]int{
		{api.EvSend, api.OK}, {api.EvSend, api.ErrUnavailable}, {api.EvSend, api.ErrNoSpace},
		{api.EvDeliver, api.OK}, {api.EvDeliver, api.ErrNotFound}, {api.EvDeliver, api.ErrUnavailable},
		{api.EvDrop, api.OK}, {api.EvDrop, api.ErrNotFound},
		{api.EvDuplicate, api.OK}, {api.EvDuplicate, api.ErrNotFound}, {api.EvDuplicate, api.ErrNoSpace},
		{api.EvPartition, api.OK}, {api.EvHeal, api.OK}, {api.EvCrash, api.OK}, {api.EvRestart, api.OK},
	}
	for _, pair := range expected {
		if seen[pair] < 20 {
			t.Errorf("an event of kind %d with code %d: only %d times", pair[0], pair[1], seen[pair])
		}
	}
	if len(seen) != len(expected) {
		t.Errorf("kinds and codes: %v", seen)
	}
}

// TestModelOfRun compares Run with the model and with Step, applied to one
// event after the other.
func TestModelOfRun(t *testing.T) {
	for _, events := range slices.Concat(runs(600, 0), runs(400, 60)) {
		got := text(network.Run(events))
		if want := text(modelRun(events)); got != want {
			t.Fatalf("Run(%v) = %s, want %s", events, got, want)
		}
		if want := text(stepByStep(events)); got != want {
			t.Fatalf("Run(%v) = %s, but Step gives %s", events, got, want)
		}
	}
}

// stepByStep returns the results of Run from those of Step.
func stepByStep(events []api.Event) (api.Network, []api.Packet, []int, api.Fault) {
	var n api.Network
	var delivered []api.Packet
	var codes []int
	for i, e := range events {
		next, packets, code, fault := network.Step(n, e)
		if fault != success {
			fault.Index = i
			return api.Network{}, nil, nil, fault
		}
		n, delivered, codes = next, append(delivered, packets...), append(codes, code)
	}
	return n, delivered, codes, success
}

// TestConnected checks the definition of connected machines: a packet of every
// sender to every receiver, with all sets of crashed machines, and with no
// partition, only that of the two machines, all others, and all.
func TestConnected(t *testing.T) {
	for set := range 1 << api.MaxMachines {
		var machines []int
		for machine := range api.MaxMachines {
			if set>>machine&1 == 1 {
				machines = append(machines, machine)
			}
		}
		for from := range api.MaxMachines {
			for to := range api.MaxMachines {
				checkConnected(t, machines, from, to)
			}
		}
	}
}

// checkConnected checks whether a packet is delivered.
func checkConnected(t *testing.T, machines []int, from, to int) {
	t.Helper()
	var own, others [][2]int
	for _, pair := range allPairs() {
		if from+to == pair[0]+pair[1] && from*to == pair[0]*pair[1] {
			own = append(own, pair)
		} else {
			others = append(others, pair)
		}
	}
	up := !slices.Contains(machines, from) && !slices.Contains(machines, to)
	cases := []struct {
		pairs     [][2]int
		connected bool
	}{{nil, up}, {own, up && from == to}, {others, up}, {allPairs(), up && from == to}}
	for _, c := range cases {
		n := api.Network{InFlight: []api.Packet{packet(from, to, 1, 5)}, Partitions: c.pairs, Down: machines, Sent: 1}
		after, delivered, code, fault := network.Step(n, api.Event{Kind: api.EvDeliver})
		isDelivered := code == api.OK && len(delivered) == 1 && len(after.InFlight) == 0
		isKept := code == api.ErrUnavailable && len(delivered) == 0 && len(after.InFlight) == 1
		if fault != success || isDelivered != c.connected || isKept == c.connected {
			t.Fatalf("delivery in %v = %v, %v, %d, %v", n, after, delivered, code, fault)
		}
	}
}
