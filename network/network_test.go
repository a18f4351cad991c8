package network_test

import (
	"fmt"
	"math"
	"slices"
	"strings"
	"testing"

	"farshelf/api"
	"farshelf/network"
)

var success = api.Fault{}

// notMachines are numbers of no machine.
func notMachines() []int {
	return []int{math.MinInt, -1 << 32, -9, -1, api.MaxMachines, api.MaxMachines + 1, 1 << 32, 1<<32 + 1, math.MaxInt}
}

// notNumbers are numbers that are not between 0 and MaxValue.
func notNumbers() []int {
	return []int{math.MinInt, -1 << 32, -1, api.MaxValue + 1, 1 << 32, 1<<32 + 1, math.MaxInt}
}

// packet returns a packet with the given payload.
func packet(from, to, seq int, payload ...byte) api.Packet {
	return api.Packet{From: from, To: to, Seq: seq, Payload: payload}
}

// flying returns a network with the given packets in flight, the last of so
// many that were sent.
func flying(sent int, packets ...api.Packet) api.Network {
	return api.Network{InFlight: packets, Sent: sent}
}

// parted returns a network with the given partitions.
func parted(pairs ...[2]int) api.Network { return api.Network{Partitions: pairs} }

// down returns a network with the given crashed machines.
func down(machines ...int) api.Network { return api.Network{Down: machines} }

// full returns a network with n packets in flight, numbered from 1.
func full(n int) api.Network {
	var packets []api.Packet
	for i := range n {
		packets = append(packets, packet(i%api.MaxMachines, 1, i+1, byte(i)))
	}
	return flying(n, packets...)
}

// allPairs returns all pairs of different machines, in order.
func allPairs() [][2]int {
	var pairs [][2]int
	for a := range api.MaxMachines {
		for b := a + 1; b < api.MaxMachines; b++ {
			pairs = append(pairs, [2]int{a, b})
		}
	}
	return pairs
}

// allMachines returns the numbers of all machines.
func allMachines() []int { return []int{0, 1, 2, 3, 4, 5, 6, 7, 8} }

// validNetworks are networks without an error, among them those at the limits.
func validNetworks() []api.Network {
	long := make([]byte, api.MaxFileBytes)
	return []api.Network{
		{},
		{Sent: 1},
		{Sent: api.MaxValue},
		flying(1, packet(0, 0, 1)),
		flying(1, packet(8, 8, 1, long...)),
		flying(5, packet(0, 8, 5, 1), packet(8, 0, 5, 2), packet(3, 4, 1, 3)),
		flying(api.MaxValue, packet(1, 2, api.MaxValue, 1), packet(1, 2, 1)),
		full(1),
		full(api.MaxPackets - 1),
		full(api.MaxPackets),
		flying(1, slices.Repeat([]api.Packet{packet(0, 1, 1, 5)}, api.MaxPackets)...),
		parted([2]int{0, 1}),
		parted([2]int{0, 8}, [2]int{1, 2}),
		parted([2]int{0, 1}, [2]int{0, 2}, [2]int{1, 2}),
		parted([2]int{7, 8}),
		parted(allPairs()...),
		down(0),
		down(8),
		down(1, 2),
		down(allMachines()...),
		{InFlight: full(3).InFlight, Partitions: allPairs(), Down: allMachines(), Sent: 3},
		{InFlight: []api.Packet{packet(1, 2, 2, 9)}, Partitions: [][2]int{{1, 2}}, Down: []int{1}, Sent: 7},
	}
}

// invalidNetwork is a network with its fault.
type invalidNetwork struct {
	network api.Network
	code    int
	index   int
}

// invalidNetworks are networks with one error each.
func invalidNetworks() []invalidNetwork {
	tooLong := make([]byte, api.MaxFileBytes+1)
	fine := packet(1, 2, 3, 4)
	all := []invalidNetwork{
		{full(api.MaxPackets + 1), api.ErrTooMany, 0},
		{full(1000), api.ErrTooMany, 0},
		{flying(3, packet(0, 0, 0)), api.ErrRange, 0},
		{flying(3, packet(0, 0, -1)), api.ErrRange, 0},
		{flying(3, packet(0, 0, math.MinInt)), api.ErrRange, 0},
		{flying(3, packet(0, 0, 4)), api.ErrRange, 0},
		{flying(3, packet(0, 0, math.MaxInt)), api.ErrRange, 0},
		{flying(3, fine, fine, packet(0, 0, 4)), api.ErrRange, 2},
		{flying(0, packet(0, 0, 0)), api.ErrRange, 0},
		{flying(0, packet(0, 0, 1)), api.ErrRange, 0},
		{flying(3, packet(0, 0, 1, tooLong...)), api.ErrTooLarge, 0},
		{flying(3, fine, packet(0, 0, 1, make([]byte, 5000)...)), api.ErrTooLarge, 1},
		{flying(120, append(full(119).InFlight, packet(9, 0, 1))...), api.ErrRange, 119},
		{parted([2]int{0, 0}), api.ErrMalformed, 0},
		{parted([2]int{8, 8}), api.ErrMalformed, 0},
		{parted([2]int{1, 0}), api.ErrMalformed, 0},
		{parted([2]int{8, 7}), api.ErrMalformed, 0},
		{parted([2]int{0, 1}, [2]int{0, 1}), api.ErrMalformed, 1},
		{parted([2]int{0, 2}, [2]int{0, 1}), api.ErrMalformed, 1},
		{parted([2]int{1, 2}, [2]int{0, 8}), api.ErrMalformed, 1},
		{parted([2]int{0, 1}, [2]int{2, 4}, [2]int{2, 3}), api.ErrMalformed, 2},
		{parted([2]int{0, 1}, [2]int{2, 4}, [2]int{0, 1}), api.ErrMalformed, 2},
		{parted([2]int{0, 1}, [2]int{2, 1}), api.ErrMalformed, 1},
		{parted(append(allPairs(), [2]int{7, 8})...), api.ErrMalformed, 36},
		{down(0, 0), api.ErrMalformed, 1},
		{down(1, 0), api.ErrMalformed, 1},
		{down(8, 7), api.ErrMalformed, 1},
		{down(1, 2, 2), api.ErrMalformed, 2},
		{down(1, 3, 2), api.ErrMalformed, 2},
		{down(1, 3, 1), api.ErrMalformed, 2},
		{down(append(allMachines(), 8)...), api.ErrMalformed, 9},
	}
	for _, m := range notMachines() {
		all = append(all,
			invalidNetwork{flying(3, packet(m, 0, 1)), api.ErrRange, 0},
			invalidNetwork{flying(3, packet(0, m, 1)), api.ErrRange, 0},
			invalidNetwork{flying(3, fine, packet(0, m, 1)), api.ErrRange, 1},
			invalidNetwork{flying(3, fine, packet(m, 0, 1)), api.ErrRange, 1},
			invalidNetwork{parted([2]int{m, 8}), api.ErrRange, 0},
			invalidNetwork{parted([2]int{0, m}), api.ErrRange, 0},
			invalidNetwork{parted([2]int{m, m}), api.ErrRange, 0},
			invalidNetwork{parted([2]int{0, 1}, [2]int{1, m}), api.ErrRange, 1},
			invalidNetwork{parted([2]int{0, 1}, [2]int{m, 2}), api.ErrRange, 1},
			invalidNetwork{down(m), api.ErrRange, 0},
			invalidNetwork{down(0, m), api.ErrRange, 1},
			invalidNetwork{down(0, 8, m), api.ErrRange, 2},
		)
	}
	for _, sent := range notNumbers() {
		all = append(all, invalidNetwork{api.Network{Sent: sent}, api.ErrRange, -1})
	}
	return all
}

// networksWithTwoErrors are networks with several errors, of which the one that
// is checked first is expected.
func networksWithTwoErrors() []invalidNetwork {
	tooLong := make([]byte, api.MaxFileBytes+1)
	crowded := slices.Repeat([]api.Packet{packet(-1, 9, 0, tooLong...)}, api.MaxPackets+1)
	bad := packet(9, 0, 1)
	return []invalidNetwork{
		{flying(-1, full(api.MaxPackets+1).InFlight...), api.ErrTooMany, 0},
		{flying(1, crowded...), api.ErrTooMany, 0},
		{api.Network{InFlight: crowded, Partitions: [][2]int{{9, 9}}, Down: []int{9}}, api.ErrTooMany, 0},
		{flying(-1, bad), api.ErrRange, -1},
		{flying(api.MaxValue+1, packet(0, 0, api.MaxValue+1)), api.ErrRange, -1},
		{flying(-1, packet(0, 0, 1, tooLong...)), api.ErrRange, -1},
		{api.Network{Sent: -1, Partitions: [][2]int{{1, 1}}, Down: []int{2, 1}}, api.ErrRange, -1},
		{flying(1, packet(9, 0, 1, tooLong...)), api.ErrRange, 0},
		{flying(1, packet(0, 9, 1, tooLong...)), api.ErrRange, 0},
		{flying(1, packet(0, 0, 2, tooLong...)), api.ErrRange, 0},
		{flying(1, packet(0, 0, 1, tooLong...), bad), api.ErrTooLarge, 0},
		{flying(1, bad, packet(0, 0, 1, tooLong...)), api.ErrRange, 0},
		{flying(1, packet(0, 0, 1), packet(0, 0, 1, tooLong...), bad), api.ErrTooLarge, 1},
		{api.Network{InFlight: []api.Packet{bad}, Sent: 1, Partitions: [][2]int{{1, 1}}}, api.ErrRange, 0},
		{api.Network{InFlight: []api.Packet{packet(0, 0, 1, tooLong...)}, Sent: 1, Partitions: [][2]int{{9, 9}}}, api.ErrTooLarge, 0},
		{api.Network{InFlight: []api.Packet{packet(0, 0, 1, tooLong...)}, Sent: 1, Down: []int{9}}, api.ErrTooLarge, 0},
		{api.Network{InFlight: []api.Packet{packet(0, 0, 1), bad}, Sent: 1, Partitions: [][2]int{{1, 1}}, Down: []int{9}}, api.ErrRange, 1},
		{parted([2]int{9, 0}), api.ErrRange, 0},
		{parted([2]int{9, 9}), api.ErrRange, 0},
		{parted([2]int{0, -1}), api.ErrRange, 0},
		{parted([2]int{1, 2}, [2]int{-1, 2}), api.ErrRange, 1},
		{parted([2]int{1, 2}, [2]int{0, 9}), api.ErrRange, 1},
		{parted([2]int{1, 0}, [2]int{9, 9}), api.ErrMalformed, 0},
		{parted([2]int{0, 9}, [2]int{1, 1}), api.ErrRange, 0},
		{parted([2]int{1, 2}, [2]int{1, 2}, [2]int{0, 9}), api.ErrMalformed, 1},
		{api.Network{Partitions: [][2]int{{1, 1}}, Down: []int{9}}, api.ErrMalformed, 0},
		{api.Network{Partitions: [][2]int{{1, 2}, {0, 9}}, Down: []int{1, 1}}, api.ErrRange, 1},
		{down(3, -1), api.ErrRange, 1},
		{down(3, 3, 9), api.ErrMalformed, 1},
		{down(9, 9), api.ErrRange, 0},
		{down(9, 3, 2), api.ErrRange, 0},
	}
}

// TestValidate checks R10.1 with valid networks.
func TestValidate(t *testing.T) {
	for _, n := range validNetworks() {
		if got := network.Validate(n); got != success {
			t.Errorf("Validate(%v) = %v", n, got)
		}
	}
}

// TestValidateErrors checks the errors of R10.1 and the order in which they are
// checked, for Validate and for Step, which returns them whatever the event is.
func TestValidateErrors(t *testing.T) {
	for _, c := range append(invalidNetworks(), networksWithTwoErrors()...) {
		want := api.Fault{Code: c.code, Index: c.index}
		if got := network.Validate(c.network); got != want {
			t.Errorf("Validate(%.300s) = %v, want %v", text(c.network), got, want)
		}
		for _, e := range []api.Event{{Kind: api.EvDrop}, {Kind: api.EvHeal, B: 1}, {}, {Kind: 99, A: -1, N: -1}} {
			if _, _, _, got := network.Step(c.network, e); got != want {
				t.Errorf("Step(%.300s, %v) with %v, want %v", text(c.network), e, got, want)
			}
		}
	}
}

// text returns results as text, in which nil and empty lists look the same.
func text(results ...any) string { return strings.TrimSpace(fmt.Sprintln(results...)) }

// busy returns a network with packets between machines 1 and 2 in both
// directions, one of machine 3 to itself, and one from machine 4 to 5.
func busy() api.Network {
	return flying(7, packet(1, 2, 3, 10), packet(2, 1, 4, 20, 21), packet(3, 3, 6), packet(4, 5, 7, 30))
}

// step is an application of an event with its results.
type step struct {
	network   api.Network
	event     api.Event
	want      api.Network
	delivered []api.Packet
	code      int
}

// checkSteps compares the results of Step with those of a table.
func checkSteps(t *testing.T, steps []step) {
	t.Helper()
	for _, s := range steps {
		n, delivered, code, fault := network.Step(s.network, s.event)
		got, want := text(n, delivered, code, fault), text(s.want, s.delivered, s.code, success)
		if got != want {
			t.Errorf("Step(%.300s, %.100s) = %.400s, want %.400s", text(s.network), text(s.event), got, want)
		}
	}
}

// refused returns a step whose event has no effect but its code.
func refused(n api.Network, e api.Event, code int) step { return step{n, e, n, nil, code} }

// TestSend checks R10.2 for EvSend.
func TestSend(t *testing.T) {
	send := func(a, b int, data ...byte) api.Event {
		return api.Event{Kind: api.EvSend, A: a, B: b, Data: data}
	}
	long := slices.Repeat([]byte{9}, api.MaxFileBytes)
	almost, whole := full(api.MaxPackets-1), full(api.MaxPackets)
	atLimit := api.Network{Sent: api.MaxValue}
	wholeAndDown := full(api.MaxPackets)
	wholeAndDown.Down = []int{3}
	checkSteps(t, []step{
		{api.Network{}, send(0, 1, 7), flying(1, packet(0, 1, 1, 7)), nil, api.OK},
		{api.Network{}, send(1, 0), flying(1, packet(1, 0, 1)), nil, api.OK},
		{api.Network{}, send(8, 8, 1, 2, 3), flying(1, packet(8, 8, 1, 1, 2, 3)), nil, api.OK},
		{api.Network{}, send(0, 1, long...), flying(1, packet(0, 1, 1, long...)), nil, api.OK},
		{api.Network{Sent: 41}, send(0, 1, 7), flying(42, packet(0, 1, 42, 7)), nil, api.OK},
		{busy(), send(2, 1, 5), flying(8, append(busy().InFlight, packet(2, 1, 8, 5))...), nil, api.OK},
		{almost, send(5, 6, 1), flying(120, append(almost.InFlight, packet(5, 6, 120, 1))...), nil, api.OK},
		{api.Network{Sent: api.MaxValue - 1}, send(0, 1), flying(api.MaxValue, packet(0, 1, api.MaxValue)), nil, api.OK},
		// A packet can be sent to a machine that it cannot reach now.
		{down(1), send(0, 1, 7), api.Network{InFlight: []api.Packet{packet(0, 1, 1, 7)}, Down: []int{1}, Sent: 1}, nil, api.OK},
		{parted([2]int{0, 1}), send(0, 1), api.Network{InFlight: []api.Packet{packet(0, 1, 1)}, Partitions: [][2]int{{0, 1}}, Sent: 1}, nil, api.OK},
		{parted([2]int{0, 1}), send(1, 0), api.Network{InFlight: []api.Packet{packet(1, 0, 1)}, Partitions: [][2]int{{0, 1}}, Sent: 1}, nil, api.OK},
		// EvSend does not use N.
		{api.Network{}, api.Event{Kind: api.EvSend, A: 1, B: 2, N: 55}, flying(1, packet(1, 2, 1)), nil, api.OK},

		refused(down(0), send(0, 1, 7), api.ErrUnavailable),
		refused(down(3), send(3, 3, 7), api.ErrUnavailable),
		refused(down(1, 4, 8), send(8, 0), api.ErrUnavailable),
		refused(down(allMachines()...), send(5, 6), api.ErrUnavailable),
		refused(whole, send(0, 1, 7), api.ErrNoSpace),
		refused(flying(api.MaxValue, whole.InFlight...), send(0, 1, 7), api.ErrNoSpace),
		refused(atLimit, send(0, 1, 7), api.ErrNoSpace),
		refused(wholeAndDown, send(3, 1), api.ErrUnavailable),
		refused(api.Network{Sent: api.MaxValue, Down: []int{0}}, send(0, 1), api.ErrUnavailable),
		refused(api.Network{Sent: api.MaxValue, Down: []int{0}}, send(1, 0), api.ErrNoSpace),
	})
}

// hindered returns a busy network with partitions and crashed machines.
func hindered(pairs [][2]int, machines ...int) api.Network {
	n := busy()
	n.Partitions, n.Down = pairs, machines
	return n
}

// without returns a network without its packet i.
func without(n api.Network, i int) api.Network {
	n.InFlight = slices.Concat(n.InFlight[:i], n.InFlight[i+1:])
	return n
}

// TestDeliver checks R10.2 for EvDeliver.
func TestDeliver(t *testing.T) {
	deliver := func(i int) api.Event { return api.Event{Kind: api.EvDeliver, N: i} }
	packets := busy().InFlight
	delivers := func(n api.Network, i int) step {
		return step{n, deliver(i), without(n, i), packets[i : i+1], api.OK}
	}
	whole := full(api.MaxPackets)
	checkSteps(t, []step{
		delivers(busy(), 0),
		delivers(busy(), 1),
		delivers(busy(), 2),
		delivers(busy(), 3),
		{flying(7, packets[3]), deliver(0), api.Network{Sent: 7}, packets[3:], api.OK},
		{whole, deliver(119), without(whole, 119), whole.InFlight[119:], api.OK},
		// Other machines may be down or partitioned, even from the sender or the
		// receiver.
		delivers(hindered([][2]int{{0, 1}, {1, 3}, {2, 3}, {4, 6}}), 0),
		delivers(hindered([][2]int{{0, 1}, {1, 3}, {2, 3}, {4, 6}}), 1),
		delivers(hindered([][2]int{{0, 1}, {1, 3}, {2, 3}, {4, 6}}, 3), 3),
		delivers(hindered(nil, 0, 3, 4, 5, 6, 7, 8), 0),
		delivers(hindered(nil, 0, 3, 4, 5, 6, 7, 8), 1),
		// Nothing partitions a machine from itself.
		delivers(hindered(allPairs()), 2),
		delivers(hindered(allPairs(), 0, 1, 2, 4, 5, 6, 7, 8), 2),
		// EvDeliver does not use A, B and Data.
		{busy(), api.Event{Kind: api.EvDeliver, A: 4, B: 4, N: 1, Data: []byte{1}}, without(busy(), 1), packets[1:2], api.OK},
		{hindered(nil, 5), api.Event{Kind: api.EvDeliver, A: 5, B: 5, N: 1}, without(hindered(nil, 5), 1), packets[1:2], api.OK},

		refused(api.Network{}, deliver(0), api.ErrNotFound),
		refused(api.Network{}, deliver(api.MaxValue), api.ErrNotFound),
		refused(busy(), deliver(4), api.ErrNotFound),
		refused(busy(), deliver(5), api.ErrNotFound),
		refused(busy(), deliver(api.MaxValue), api.ErrNotFound),
		refused(hindered(allPairs(), allMachines()...), deliver(4), api.ErrNotFound),
		refused(whole, deliver(120), api.ErrNotFound),
		refused(hindered([][2]int{{1, 2}}), deliver(0), api.ErrUnavailable),
		refused(hindered([][2]int{{1, 2}}), deliver(1), api.ErrUnavailable),
		refused(hindered([][2]int{{0, 8}, {1, 2}, {4, 5}}), deliver(3), api.ErrUnavailable),
		refused(hindered(nil, 1), deliver(0), api.ErrUnavailable),
		refused(hindered(nil, 2), deliver(0), api.ErrUnavailable),
		refused(hindered(nil, 1), deliver(1), api.ErrUnavailable),
		refused(hindered(nil, 2), deliver(1), api.ErrUnavailable),
		refused(hindered(nil, 3), deliver(2), api.ErrUnavailable),
		refused(hindered(nil, 0, 5), deliver(3), api.ErrUnavailable),
		refused(hindered([][2]int{{4, 5}}, 4, 5), deliver(3), api.ErrUnavailable),
	})
}

// TestDrop checks R10.2 for EvDrop.
func TestDrop(t *testing.T) {
	drop := func(i int) api.Event { return api.Event{Kind: api.EvDrop, N: i} }
	drops := func(n api.Network, i int) step { return step{n, drop(i), without(n, i), nil, api.OK} }
	whole := full(api.MaxPackets)
	checkSteps(t, []step{
		drops(busy(), 0),
		drops(busy(), 1),
		drops(busy(), 2),
		drops(busy(), 3),
		drops(whole, 0),
		drops(whole, 119),
		{flying(7, packet(4, 5, 7)), drop(0), api.Network{Sent: 7}, nil, api.OK},
		drops(hindered([][2]int{{1, 2}}), 0),
		drops(hindered(allPairs(), allMachines()...), 3),
		{busy(), api.Event{Kind: api.EvDrop, A: 4, B: 4, N: 1, Data: []byte{1}}, without(busy(), 1), nil, api.OK},

		refused(api.Network{}, drop(0), api.ErrNotFound),
		refused(api.Network{}, drop(api.MaxValue), api.ErrNotFound),
		refused(busy(), drop(4), api.ErrNotFound),
		refused(busy(), drop(5), api.ErrNotFound),
		refused(busy(), drop(api.MaxValue), api.ErrNotFound),
		refused(whole, drop(120), api.ErrNotFound),
	})
}

// TestDuplicate checks R10.2 for EvDuplicate.
func TestDuplicate(t *testing.T) {
	duplicate := func(i int) api.Event { return api.Event{Kind: api.EvDuplicate, N: i} }
	doubled := func(n api.Network, i int) api.Network {
		n.InFlight = slices.Concat(n.InFlight[:i+1], n.InFlight[i:])
		return n
	}
	duplicates := func(n api.Network, i int) step { return step{n, duplicate(i), doubled(n, i), nil, api.OK} }
	almost, whole := full(api.MaxPackets-1), full(api.MaxPackets)
	checkSteps(t, []step{
		duplicates(busy(), 0),
		duplicates(busy(), 1),
		duplicates(busy(), 2),
		duplicates(busy(), 3),
		duplicates(doubled(busy(), 1), 2),
		duplicates(almost, 0),
		duplicates(almost, 118),
		duplicates(hindered([][2]int{{1, 2}}), 0),
		duplicates(hindered(allPairs(), allMachines()...), 3),
		{flying(1, packet(0, 1, 1, 7)), duplicate(0), flying(1, packet(0, 1, 1, 7), packet(0, 1, 1, 7)), nil, api.OK},
		{flying(api.MaxValue, packet(0, 1, 1, 7)), duplicate(0), flying(api.MaxValue, packet(0, 1, 1, 7), packet(0, 1, 1, 7)), nil, api.OK},
		{busy(), api.Event{Kind: api.EvDuplicate, A: 4, B: 4, N: 1, Data: []byte{1}}, doubled(busy(), 1), nil, api.OK},

		refused(api.Network{}, duplicate(0), api.ErrNotFound),
		refused(busy(), duplicate(4), api.ErrNotFound),
		refused(busy(), duplicate(5), api.ErrNotFound),
		refused(busy(), duplicate(api.MaxValue), api.ErrNotFound),
		refused(almost, duplicate(119), api.ErrNotFound),
		refused(whole, duplicate(0), api.ErrNoSpace),
		refused(whole, duplicate(119), api.ErrNoSpace),
		refused(whole, duplicate(120), api.ErrNotFound),
	})
}

// TestPartitionAndHeal checks R10.2 for EvPartition and EvHeal: a pair that is
// there is not added again, and one that is not there need not be removed.
func TestPartitionAndHeal(t *testing.T) {
	cut := func(a, b int) api.Event { return api.Event{Kind: api.EvPartition, A: a, B: b} }
	heal := func(a, b int) api.Event { return api.Event{Kind: api.EvHeal, A: a, B: b} }
	three := parted([2]int{0, 5}, [2]int{2, 3}, [2]int{2, 7})
	withTwo := hindered([][2]int{{1, 2}, {4, 5}}, 1, 4)
	all := parted(allPairs()...)
	checkSteps(t, []step{
		{api.Network{}, cut(1, 2), parted([2]int{1, 2}), nil, api.OK},
		{api.Network{}, cut(2, 1), parted([2]int{1, 2}), nil, api.OK},
		{api.Network{}, cut(8, 0), parted([2]int{0, 8}), nil, api.OK},
		{three, cut(0, 1), parted([2]int{0, 1}, [2]int{0, 5}, [2]int{2, 3}, [2]int{2, 7}), nil, api.OK},
		{three, cut(6, 0), parted([2]int{0, 5}, [2]int{0, 6}, [2]int{2, 3}, [2]int{2, 7}), nil, api.OK},
		{three, cut(2, 1), parted([2]int{0, 5}, [2]int{1, 2}, [2]int{2, 3}, [2]int{2, 7}), nil, api.OK},
		{three, cut(2, 5), parted([2]int{0, 5}, [2]int{2, 3}, [2]int{2, 5}, [2]int{2, 7}), nil, api.OK},
		{three, cut(2, 8), parted([2]int{0, 5}, [2]int{2, 3}, [2]int{2, 7}, [2]int{2, 8}), nil, api.OK},
		{three, cut(4, 3), parted([2]int{0, 5}, [2]int{2, 3}, [2]int{2, 7}, [2]int{3, 4}), nil, api.OK},
		{three, cut(0, 5), three, nil, api.OK},
		{three, cut(3, 2), three, nil, api.OK},
		{three, cut(2, 7), three, nil, api.OK},
		{all, cut(7, 8), all, nil, api.OK},
		{down(1, 2), cut(1, 2), api.Network{Partitions: [][2]int{{1, 2}}, Down: []int{1, 2}}, nil, api.OK},
		{withTwo, cut(4, 2), hindered([][2]int{{1, 2}, {2, 4}, {4, 5}}, 1, 4), nil, api.OK},
		{api.Network{}, api.Event{Kind: api.EvPartition, A: 3, B: 1, N: 5, Data: []byte{1}}, parted([2]int{1, 3}), nil, api.OK},

		{three, heal(0, 5), parted([2]int{2, 3}, [2]int{2, 7}), nil, api.OK},
		{three, heal(3, 2), parted([2]int{0, 5}, [2]int{2, 7}), nil, api.OK},
		{three, heal(7, 2), parted([2]int{0, 5}, [2]int{2, 3}), nil, api.OK},
		{parted([2]int{7, 8}), heal(8, 7), api.Network{}, nil, api.OK},
		{all, heal(1, 0), parted(allPairs()[1:]...), nil, api.OK},
		{all, heal(8, 7), parted(allPairs()[:35]...), nil, api.OK},
		{three, heal(0, 2), three, nil, api.OK},
		{three, heal(5, 3), three, nil, api.OK},
		{three, heal(7, 8), three, nil, api.OK},
		{api.Network{}, heal(0, 1), api.Network{}, nil, api.OK},
		{withTwo, heal(4, 5), hindered([][2]int{{1, 2}}, 1, 4), nil, api.OK},
		{three, api.Event{Kind: api.EvHeal, A: 3, B: 2, N: 5, Data: []byte{1}}, parted([2]int{0, 5}, [2]int{2, 7}), nil, api.OK},
	})
}

// TestCrashAndRestart checks R10.2 for EvCrash and EvRestart: a machine that is
// down can crash again, and one that is not down can restart. Packets stay in
// flight.
func TestCrashAndRestart(t *testing.T) {
	crash := func(a int) api.Event { return api.Event{Kind: api.EvCrash, A: a} }
	restart := func(a int) api.Event { return api.Event{Kind: api.EvRestart, A: a} }
	all := down(allMachines()...)
	pair := [][2]int{{1, 2}}
	checkSteps(t, []step{
		{api.Network{}, crash(0), down(0), nil, api.OK},
		{api.Network{}, crash(8), down(8), nil, api.OK},
		{down(2, 5), crash(1), down(1, 2, 5), nil, api.OK},
		{down(2, 5), crash(3), down(2, 3, 5), nil, api.OK},
		{down(2, 5), crash(6), down(2, 5, 6), nil, api.OK},
		{down(2, 5), crash(2), down(2, 5), nil, api.OK},
		{down(2, 5), crash(5), down(2, 5), nil, api.OK},
		{down(0, 1, 2, 3, 5, 6, 7, 8), crash(4), all, nil, api.OK},
		{all, crash(4), all, nil, api.OK},
		{busy(), crash(1), hindered(nil, 1), nil, api.OK},
		{hindered(pair), crash(1), hindered(pair, 1), nil, api.OK},
		{down(2, 5), api.Event{Kind: api.EvCrash, A: 3, B: 3, N: 7, Data: []byte{1}}, down(2, 3, 5), nil, api.OK},
		{down(2, 5), api.Event{Kind: api.EvCrash, A: 5, B: 3, N: 7, Data: []byte{1}}, down(2, 5), nil, api.OK},

		{down(0), restart(0), api.Network{}, nil, api.OK},
		{down(2, 5, 8), restart(2), down(5, 8), nil, api.OK},
		{down(2, 5, 8), restart(5), down(2, 8), nil, api.OK},
		{down(2, 5, 8), restart(8), down(2, 5), nil, api.OK},
		{down(2, 5, 8), restart(0), down(2, 5, 8), nil, api.OK},
		{down(2, 5, 8), restart(7), down(2, 5, 8), nil, api.OK},
		{api.Network{}, restart(3), api.Network{}, nil, api.OK},
		{all, restart(4), down(0, 1, 2, 3, 5, 6, 7, 8), nil, api.OK},
		{hindered(pair, 1, 2), restart(1), hindered(pair, 2), nil, api.OK},
		{down(2, 5), api.Event{Kind: api.EvRestart, A: 5, B: 5, N: 7, Data: []byte{1}}, down(2), nil, api.OK},
		{down(2, 5), api.Event{Kind: api.EvRestart, A: 2, B: 5, N: 7, Data: []byte{1}}, down(5), nil, api.OK},
	})
}

// networkKinds are the kinds of events of a network.
func networkKinds() []int {
	return []int{api.EvSend, api.EvDeliver, api.EvDrop, api.EvDuplicate, api.EvPartition, api.EvHeal, api.EvCrash, api.EvRestart}
}

// invalidEvent is an event with its error.
type invalidEvent struct {
	event api.Event
	code  int
}

// invalidEvents are events with one error or with several ones, of which the
// one that is checked first is expected.
func invalidEvents() []invalidEvent {
	tooLong := make([]byte, api.MaxFileBytes+1)
	var all []invalidEvent
	for _, kind := range []int{math.MinInt, -8, -1, 0, 9, 10, 14, 15, 1<<32 + 1, math.MaxInt} {
		all = append(all,
			invalidEvent{api.Event{Kind: kind}, api.ErrKind},
			invalidEvent{api.Event{Kind: kind, A: 1, B: 2}, api.ErrKind},
			invalidEvent{api.Event{Kind: kind, A: 9, B: -1, N: -1, Data: tooLong}, api.ErrKind},
		)
	}
	for _, kind := range networkKinds() {
		for _, m := range notMachines() {
			all = append(all,
				invalidEvent{api.Event{Kind: kind, A: m, B: 1}, api.ErrRange},
				invalidEvent{api.Event{Kind: kind, A: 1, B: m}, api.ErrRange},
				invalidEvent{api.Event{Kind: kind, A: m, B: m}, api.ErrRange},
				invalidEvent{api.Event{Kind: kind, A: m, Data: tooLong}, api.ErrRange},
				invalidEvent{api.Event{Kind: kind, B: m, Data: tooLong}, api.ErrRange},
			)
		}
		for _, n := range notNumbers() {
			all = append(all,
				invalidEvent{api.Event{Kind: kind, B: 1, N: n}, api.ErrRange},
				invalidEvent{api.Event{Kind: kind, B: 1, N: n, Data: tooLong}, api.ErrRange},
			)
		}
		all = append(all,
			invalidEvent{api.Event{Kind: kind, B: 1, Data: tooLong}, api.ErrTooLarge},
			invalidEvent{api.Event{Kind: kind, B: 1, N: api.MaxValue, Data: make([]byte, 5000)}, api.ErrTooLarge},
		)
	}
	for _, kind := range []int{api.EvPartition, api.EvHeal} {
		for _, m := range allMachines() {
			all = append(all,
				invalidEvent{api.Event{Kind: kind, A: m, B: m}, api.ErrRange},
				invalidEvent{api.Event{Kind: kind, A: m, B: m, Data: tooLong}, api.ErrRange},
			)
		}
	}
	return all
}

// TestInvalidEvents checks the faults of R10.2, which do not depend on the
// network, and those of R10.3, which have the position of the event.
func TestInvalidEvents(t *testing.T) {
	for _, c := range invalidEvents() {
		for _, n := range []api.Network{{}, hindered(allPairs(), allMachines()...), full(api.MaxPackets)} {
			want := text(api.Network{}, "[]", 0, api.Fault{Code: c.code, Index: -1})
			if got := text(network.Step(n, c.event)); got != want {
				t.Errorf("Step(%.300s, %.100s) = %.300s, want %s", text(n), text(c.event), got, want)
			}
		}
		for position := range 3 {
			events := slices.Repeat([]api.Event{{Kind: api.EvSend}}, 3)
			events[position] = c.event
			want := text(api.Network{}, "[]", "[]", api.Fault{Code: c.code, Index: position})
			if got := text(network.Run(events)); got != want {
				t.Errorf("Run(%.200s) = %.300s, want %s", text(events), got, want)
			}
		}
	}
}

// TestValidEvents checks the limits of R10.2: events at them are no faults, and
// neither are equal machines, except for partitions, or any request.
func TestValidEvents(t *testing.T) {
	long := make([]byte, api.MaxFileBytes)
	request := api.Request{Kind: -5, User: 99, Path: "\xff", Offset: -1, Data: make([]byte, 5000)}
	for _, kind := range networkKinds() {
		for _, a := range allMachines() {
			for _, b := range allMachines() {
				if a == b && (kind == api.EvPartition || kind == api.EvHeal) {
					continue
				}
				for _, number := range []int{0, 1, api.MaxPackets, api.MaxValue} {
					e := api.Event{Kind: kind, A: a, B: b, N: number, Data: long, Request: request}
					if _, _, _, got := network.Step(busy(), e); got != success {
						t.Errorf("Step with %v: %v", e, got)
					}
					if _, _, _, got := network.Run([]api.Event{e}); got != success {
						t.Errorf("Run with %v: %v", e, got)
					}
				}
			}
		}
	}
}

// history is a list of events with the results of Run.
type history struct {
	events    []api.Event
	want      api.Network
	delivered []api.Packet
	codes     []int
}

// histories are examples of R10.3.
func histories() []history {
	send := func(a, b int, data ...byte) api.Event {
		return api.Event{Kind: api.EvSend, A: a, B: b, Data: data}
	}
	numbered := func(kind, n int) api.Event { return api.Event{Kind: kind, N: n} }
	between := func(kind, a, b int) api.Event { return api.Event{Kind: kind, A: a, B: b} }
	return []history{
		{},
		{[]api.Event{send(0, 1, 7), numbered(api.EvDeliver, 0)}, api.Network{Sent: 1}, []api.Packet{packet(0, 1, 1, 7)}, []int{0, 0}},
		{[]api.Event{numbered(api.EvDeliver, 0)}, api.Network{}, nil, []int{api.ErrNotFound}},
		{[]api.Event{numbered(api.EvDrop, 0)}, api.Network{}, nil, []int{api.ErrNotFound}},
		{[]api.Event{numbered(api.EvDuplicate, 0)}, api.Network{}, nil, []int{api.ErrNotFound}},
		{
			// Packets overtake each other.
			[]api.Event{send(0, 1, 7), send(0, 1, 8), send(0, 1, 9), numbered(api.EvDeliver, 2), numbered(api.EvDeliver, 0), numbered(api.EvDeliver, 1), numbered(api.EvDeliver, 0)},
			api.Network{Sent: 3}, []api.Packet{packet(0, 1, 3, 9), packet(0, 1, 1, 7), packet(0, 1, 2, 8)}, []int{0, 0, 0, 0, 0, api.ErrNotFound, 0},
		},
		{
			// A dropped packet is not delivered, and its number is not used again.
			[]api.Event{send(0, 1, 7), numbered(api.EvDrop, 0), numbered(api.EvDeliver, 0), send(1, 0, 8), numbered(api.EvDeliver, 0)},
			api.Network{Sent: 2}, []api.Packet{packet(1, 0, 2, 8)}, []int{0, 0, api.ErrNotFound, 0, 0},
		},
		{
			// A duplicate is delivered as a packet of its own.
			[]api.Event{send(0, 1, 7), send(0, 2, 8), numbered(api.EvDuplicate, 0), numbered(api.EvDeliver, 1), send(2, 2), numbered(api.EvDeliver, 0)},
			flying(3, packet(0, 2, 2, 8), packet(2, 2, 3)), []api.Packet{packet(0, 1, 1, 7), packet(0, 1, 1, 7)}, []int{0, 0, 0, 0, 0, 0},
		},
		{
			// A partition lasts until it heals once, however often it was made.
			[]api.Event{send(0, 1, 7), between(api.EvPartition, 1, 0), between(api.EvPartition, 0, 1), numbered(api.EvDeliver, 0), between(api.EvHeal, 1, 0), numbered(api.EvDeliver, 0)},
			api.Network{Sent: 1}, []api.Packet{packet(0, 1, 1, 7)}, []int{0, 0, 0, api.ErrUnavailable, 0, 0},
		},
		{
			// A packet outlives the crash of its sender and its receiver.
			[]api.Event{send(4, 6, 7), between(api.EvCrash, 4, 0), between(api.EvCrash, 6, 0), send(4, 6), send(6, 4), numbered(api.EvDeliver, 0), between(api.EvRestart, 4, 0), numbered(api.EvDeliver, 0), between(api.EvRestart, 6, 0), numbered(api.EvDeliver, 0)},
			api.Network{Sent: 1}, []api.Packet{packet(4, 6, 1, 7)},
			[]int{0, 0, 0, api.ErrUnavailable, api.ErrUnavailable, api.ErrUnavailable, 0, api.ErrUnavailable, 0, 0},
		},
		{
			[]api.Event{between(api.EvPartition, 5, 3), between(api.EvCrash, 7, 0), between(api.EvPartition, 3, 4), between(api.EvCrash, 2, 0)},
			api.Network{Partitions: [][2]int{{3, 4}, {3, 5}}, Down: []int{2, 7}}, nil, []int{0, 0, 0, 0},
		},
	}
}

// TestRun checks R10.3.
func TestRun(t *testing.T) {
	for _, h := range histories() {
		want := text(h.want, h.delivered, h.codes, success)
		if got := text(network.Run(h.events)); got != want {
			t.Errorf("Run(%v) = %s, want %s", h.events, got, want)
		}
	}
}

// TestRunLimits checks R10.3 at the limits: MaxEvents events, of which only the
// first MaxPackets ones find space, and one event more, which is a fault
// whatever the events are.
func TestRunLimits(t *testing.T) {
	events := slices.Repeat([]api.Event{{Kind: api.EvSend, A: 3, B: 4, Data: []byte{6}}}, api.MaxEvents)
	var packets []api.Packet
	codes := slices.Repeat([]int{api.ErrNoSpace}, api.MaxEvents)
	for i := range api.MaxPackets {
		packets = append(packets, packet(3, 4, i+1, 6))
		codes[i] = api.OK
	}
	want := text(flying(api.MaxPackets, packets...), "[]", codes, success)
	if got := text(network.Run(events)); got != want {
		t.Errorf("Run of %d events = %s, want %s", len(events), got, want)
	}
	for _, e := range []api.Event{events[0], {Kind: 99}, {Kind: api.EvHeal}} {
		for _, length := range []int{api.MaxEvents + 1, 5000} {
			want := text(api.Network{}, "[]", "[]", api.Fault{Code: api.ErrTooMany, Index: -1})
			if got := text(network.Run(slices.Repeat([]api.Event{e}, length))); got != want {
				t.Errorf("Run of %d events = %.300s, want %s", length, got, want)
			}
		}
	}
	events[api.MaxEvents-1].Kind = api.EvRequest
	if _, _, _, got := network.Run(events); got != (api.Fault{Code: api.ErrKind, Index: api.MaxEvents - 1}) {
		t.Errorf("Run with an invalid last event: %v", got)
	}
}

// TestRunOfManyDeliveries checks R10.3 with the most packets that a run can
// deliver: one is duplicated and delivered until no event is left.
func TestRunOfManyDeliveries(t *testing.T) {
	events := []api.Event{{Kind: api.EvSend, A: 2, B: 6, Data: []byte{1, 2}}}
	for len(events) < api.MaxEvents-1 {
		events = append(events, api.Event{Kind: api.EvDuplicate}, api.Event{Kind: api.EvDeliver, N: 1})
	}
	events = append(events, api.Event{Kind: api.EvDeliver})
	packets := slices.Repeat([]api.Packet{packet(2, 6, 1, 1, 2)}, api.MaxEvents/2)
	want := text(api.Network{Sent: 1}, packets, make([]int, api.MaxEvents), success)
	if got := text(network.Run(events)); got != want {
		t.Errorf("Run(%.300s) = %s, want %s", text(events), got, want)
	}
}

// TestFirstInvalidEvent checks R10.3 for lists with several invalid events.
func TestFirstInvalidEvent(t *testing.T) {
	tooLong := api.Event{Kind: api.EvDrop, Data: make([]byte, api.MaxFileBytes+1)}
	cases := []struct {
		events []api.Event
		want   api.Fault
	}{
		{[]api.Event{tooLong, {Kind: 9}}, api.Fault{Code: api.ErrTooLarge}},
		{[]api.Event{{Kind: 9}, tooLong}, api.Fault{Code: api.ErrKind}},
		{[]api.Event{{Kind: 1}, {Kind: 1, A: 9}, {Kind: 9}, tooLong}, api.Fault{Code: api.ErrRange, Index: 1}},
		// Codes are no faults: the events before the invalid one have some.
		{[]api.Event{{Kind: api.EvDeliver}, {Kind: api.EvDrop, N: 5}, tooLong, {Kind: 9}}, api.Fault{Code: api.ErrTooLarge, Index: 2}},
	}
	for _, c := range cases {
		if _, _, _, got := network.Run(c.events); got != c.want {
			t.Errorf("Run(%.200s) with %v, want %v", text(c.events), got, c.want)
		}
	}
}
