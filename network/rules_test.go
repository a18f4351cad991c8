package network_test

import (
	"fmt"
	"math"
	"reflect"
	"slices"
	"strings"
	"sync"
	"testing"

	"farshelf/api"
	"farshelf/network"
)

// describe returns the results of all functions, or the panic of one of them.
func describe(n api.Network, e api.Event, l []api.Event) (all string) {
	defer func() {
		if e := recover(); e != nil {
			all = fmt.Sprint("panic: ", e)
		}
	}()
	return text(network.Validate(n)) + text(network.Step(n, e)) + text(network.Run(l))
}

// strangeNumbers are numbers that no caller should pass, among some that one
// may.
var strangeNumbers = [...]int{math.MinInt, math.MinInt + 1, -1 << 32, -1, 0, 1, 2, 5, 8, 9, 119, 120, api.MaxValue, api.MaxValue + 1, 1 << 32, 1<<32 + 1, math.MaxInt - 1, math.MaxInt}

// strangeNetworks are networks that no caller should pass.
func strangeNetworks() []api.Network {
	all := []api.Network{
		{InFlight: make([]api.Packet, 1<<16)},
		{Partitions: make([][2]int, 1<<16)},
		{Down: make([]int, 1<<16)},
		flying(1, packet(0, 1, 1, make([]byte, 1<<20)...)),
		{InFlight: full(5).InFlight, Partitions: allPairs(), Down: allMachines(), Sent: math.MinInt},
	}
	for _, number := range strangeNumbers {
		all = append(all,
			flying(number, packet(number, number, number, 1)),
			flying(3, packet(number, 1, 2), packet(1, number, 2), packet(1, 1, number)),
			parted([2]int{number, number}),
			parted([2]int{number, 1}, [2]int{1, number}),
			down(number, number),
			down(0, number),
		)
	}
	for _, c := range append(invalidNetworks(), networksWithTwoErrors()...) {
		all = append(all, c.network)
	}
	return all
}

// strangeEvents are events that no caller should pass, among some that one may.
func strangeEvents() []api.Event {
	all := []api.Event{{Kind: api.EvSend, Data: make([]byte, 1<<20)}}
	for _, kind := range append(networkKinds(), strangeNumbers[:]...) {
		for _, number := range strangeNumbers {
			all = append(all,
				api.Event{Kind: kind, A: number, B: 1, N: 1},
				api.Event{Kind: kind, A: 1, B: number, N: 1},
				api.Event{Kind: kind, A: 1, B: 2, N: number},
				api.Event{Kind: kind, A: number, B: number, N: number, Request: api.Request{Kind: number, Offset: number}},
			)
		}
	}
	return all
}

// TestTotality checks Z1: no argument makes a function panic or go on without
// an end.
func TestTotality(t *testing.T) {
	events := strangeEvents()
	for i, n := range slices.Concat(strangeNetworks(), validNetworks()) {
		for k, e := range events {
			if i > 5 && (i+k)%7 > 0 {
				continue
			}
			if got := describe(n, e, []api.Event{e}); strings.HasPrefix(got, "panic") {
				t.Errorf("%.300s, %.200s: %s", text(n), text(e), got)
			}
		}
	}
	for _, length := range []int{0, 1, api.MaxEvents, api.MaxEvents + 1, 1 << 16} {
		for _, kind := range networkKinds() {
			l := slices.Repeat([]api.Event{{Kind: kind, A: 1}}, length)
			if got := describe(api.Network{}, api.Event{}, l); strings.HasPrefix(got, "panic") {
				t.Errorf("%d events of kind %d: %s", length, kind, got)
			}
		}
	}
}

// TestZeroResults checks Z2: with a fault, all other results are zero, and
// without one the fault has no index either.
func TestZeroResults(t *testing.T) {
	check := func(n api.Network, delivered []api.Packet, rest bool, got api.Fault, call string) {
		t.Helper()
		zero := n.Sent == 0 && len(n.InFlight)+len(n.Partitions)+len(n.Down)+len(delivered) == 0 && rest
		if got.Code != api.OK && !zero || got.Code == api.OK && got.Index != 0 {
			t.Errorf("%s with %v", call, got)
		}
	}
	strange := strangeEvents()
	for i, n := range slices.Concat(strangeNetworks(), validNetworks()) {
		for k := range strange {
			if (i+k)%5 == 0 {
				after, delivered, code, fault := network.Step(n, strange[k])
				check(after, delivered, code == 0, fault, "Step")
			}
		}
	}
	for _, s := range situations(3000, 40) {
		after, delivered, code, fault := network.Step(s.network, s.event)
		check(after, delivered, code == 0, fault, "Step")
	}
	for _, events := range append(runs(400, 60), make([]api.Event, 300)) {
		after, delivered, codes, fault := network.Run(events)
		check(after, delivered, len(codes) == 0, fault, "Run")
	}
}

// TestResultsAreValid checks that Step and Run return valid networks, which
// Step takes again, one code for each event, and at most one packet for it.
func TestResultsAreValid(t *testing.T) {
	for _, s := range situations(3000, 20) {
		after, delivered, _, fault := network.Step(s.network, s.event)
		if got := network.Validate(after); got != success || len(delivered) > 1 || fault == success && after.Sent < s.network.Sent {
			t.Errorf("Step(%v, %v) = %v, %v", s.network, s.event, after, delivered)
		}
	}
	for _, events := range runs(400, 0) {
		after, delivered, codes, fault := network.Run(events)
		if got := network.Validate(after); got != success || fault != success || len(codes) != len(events) || len(delivered) > len(events) {
			t.Errorf("Run(%v) = %v, %v, %v, %v", events, after, delivered, codes, fault)
		}
	}
}

// cloneNetwork returns a network that shares no memory with n.
func cloneNetwork(n api.Network) api.Network {
	n.InFlight, n.Partitions, n.Down = slices.Clone(n.InFlight), slices.Clone(n.Partitions), slices.Clone(n.Down)
	for i := range n.InFlight {
		n.InFlight[i].Payload = slices.Clone(n.InFlight[i].Payload)
	}
	return n
}

// roomy returns n with spare capacity behind all its lists.
func roomy(n api.Network) api.Network {
	n = cloneNetwork(n)
	for i := range n.InFlight {
		p := &n.InFlight[i]
		p.Payload = append(p.Payload, 7, 7, 7)[:len(p.Payload)]
	}
	n.InFlight = append(n.InFlight, packet(6, 6, 6, 6), packet(7, 7, 7, 7))[:len(n.InFlight)]
	n.Partitions = append(n.Partitions, [2]int{6, 7}, [2]int{7, 6})[:len(n.Partitions)]
	n.Down = append(n.Down, 77, 77)[:len(n.Down)]
	return n
}

// whole returns n with the spare capacity of its lists as a part of them.
func whole(n api.Network) api.Network {
	n.InFlight = slices.Clone(n.InFlight[:cap(n.InFlight)])
	n.Partitions, n.Down = n.Partitions[:cap(n.Partitions)], n.Down[:cap(n.Down)]
	for i := range n.InFlight {
		p := &n.InFlight[i]
		p.Payload = p.Payload[:cap(p.Payload)]
	}
	return n
}

// TestArgumentsStay checks Z4: neither a network nor an event, nor the spare
// capacity of their lists, is modified.
func TestArgumentsStay(t *testing.T) {
	for _, s := range slices.Concat(situations(3000, 0), situations(1000, 40)) {
		argument, event := roomy(s.network), s.event
		event.Data = append(slices.Clone(s.event.Data), 8, 8)[:len(s.event.Data)]
		before, data := cloneNetwork(whole(argument)), slices.Clone(event.Data[:cap(event.Data)])
		describe(argument, event, nil)
		if after := cloneNetwork(whole(argument)); !reflect.DeepEqual(after, before) {
			t.Errorf("%v: %v became %v", event, before, after)
		}
		if !slices.Equal(data, event.Data[:cap(event.Data)]) {
			t.Errorf("the data of %v changed", s.event)
		}
	}
	for _, events := range runs(200, 10) {
		argument := append(slices.Clone(events), api.Event{Kind: 77, Data: []byte{7}})[:len(events)]
		for i := range argument {
			argument[i].Data = append(slices.Clone(argument[i].Data), 8, 8)[:len(argument[i].Data)]
		}
		before := text(argument[:cap(argument)])
		describe(api.Network{}, api.Event{}, argument)
		if after := text(argument[:cap(argument)]); after != before {
			t.Errorf("%s became %s", before, after)
		}
		for _, e := range argument {
			if spare := e.Data[len(e.Data) : len(e.Data)+2]; spare[0] != 8 || spare[1] != 8 {
				t.Errorf("the spare capacity of %v became %v", e.Data, spare)
			}
		}
	}
}

// places collects the addresses of memory, to find out whether lists share it.
type places struct {
	seen   map[any]bool
	shared bool
}

// addAll adds the elements of a list, and of its spare capacity.
func addAll[E any](p *places, l []E) {
	for i := range l[:cap(l)] {
		at := &l[:cap(l)][i]
		p.shared = p.shared || p.seen[at]
		p.seen[at] = true
	}
}

// addPackets adds packets with their payloads.
func (p *places) addPackets(l []api.Packet) {
	addAll(p, l)
	for _, packet := range l[:cap(l)] {
		addAll(p, packet.Payload)
	}
}

// addNetwork adds a network.
func (p *places) addNetwork(n api.Network) {
	p.addPackets(n.InFlight)
	addAll(p, n.Partitions)
	addAll(p, n.Down)
}

// TestResultsAreSeparate checks Z4: results share no memory with arguments, with
// earlier results, or with each other. All copies of a packet have payloads of
// their own.
func TestResultsAreSeparate(t *testing.T) {
	for _, s := range slices.Concat(situations(1500, 0), situations(300, 40)) {
		p := places{seen: map[any]bool{}}
		argument := roomy(s.network)
		p.addNetwork(argument)
		addAll(&p, s.event.Data)
		for range 2 {
			after, delivered, _, _ := network.Step(argument, s.event)
			p.addNetwork(after)
			p.addPackets(delivered)
		}
		if p.shared {
			t.Errorf("Step(%v, %v): there is shared memory", s.network, s.event)
		}
	}
	for _, events := range runs(300, 10) {
		p := places{seen: map[any]bool{}}
		for _, e := range events {
			addAll(&p, e.Data)
		}
		for range 2 {
			after, delivered, codes, _ := network.Run(events)
			p.addNetwork(after)
			p.addPackets(delivered)
			addAll(&p, codes)
		}
		if p.shared {
			t.Errorf("Run(%v): there is shared memory", events)
		}
	}
}

// TestDeterminism checks Z5: a call returns the same whatever was called before
// it or is called at the same time.
func TestDeterminism(t *testing.T) {
	all := slices.Concat(situations(400, 0), situations(200, 40))
	lists := runs(100, 10)
	call := func(i int) string { return describe(all[i].network, all[i].event, lists[i%len(lists)]) }
	want := make([]string, len(all))
	for i := range all {
		want[i] = call(i)
	}
	var group sync.WaitGroup
	for worker := range 4 {
		group.Go(func() {
			for k := range all {
				i := (len(all) - 1 - k + worker*7) % len(all)
				if got := call(i); got != want[i] {
					t.Errorf("%v: %s, then %s", all[i], want[i], got)
				}
			}
		})
	}
	group.Wait()
}

// TestEmptyLists checks Z6: nil and empty lists are equivalent.
func TestEmptyLists(t *testing.T) {
	// filled returns a list that is not nil, with the elements of l.
	filled := func(l []byte) []byte { return append(make([]byte, 0, 8), l...) }
	for i, s := range slices.Concat(situations(1500, 0), situations(500, 40)) {
		empty, event := cloneNetwork(s.network), s.event
		empty.InFlight = append(make([]api.Packet, 0, 8), empty.InFlight...)
		empty.Partitions = append(make([][2]int, 0, 8), empty.Partitions...)
		empty.Down = append(make([]int, 0, 8), empty.Down...)
		for k := range empty.InFlight {
			empty.InFlight[k].Payload = filled(empty.InFlight[k].Payload)
		}
		event.Data = filled(event.Data)
		without, events := []api.Event(nil), []api.Event{}
		if i%2 == 1 {
			without, events = []api.Event{s.event}, []api.Event{event}
		}
		if got, want := describe(empty, event, events), describe(s.network, s.event, without); got != want {
			t.Errorf("%v, %v: %s, want %s", s.network, s.event, got, want)
		}
	}
}
