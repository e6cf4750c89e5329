/-
  Contracts of the document's own answers for layer 3: without, with, power.
-/
import Derived.Test.YtjmjpnmlpdbbpaaDiskRef2
import Derived.Test.YtjmjpnmlpdbbpaaOut
namespace Go.Proofs.Ytjmjpnmlpdbbpaa.disk
open Go.RowKit
set_option linter.unusedVariables false

/-- what comes back is this disk; what was there is as it was. -/
def RetDisk (S : Nat → Prop) (w : World) (d : DiskD) (e : Ending) (w' : World) : Prop :=
  ∃ A n c, e = .returned (.agg #[.slice A n c, .int .i64 d.room, .int .i64 d.fuse, .bool d.down]) ∧ FilesIn w' (Out S w w') A d.files ∧ Hid (d.files.length = n) ∧ n ≤ c ∧ c ≤ maxLen ∧ Below w.heap.size w w'

theorem sans_yes {fs : List FileD} {k : Nat} {f : FileD} {nm : ByteArray} (h : fs[k]? = some f) (hs : sameName f.name nm = true) : sans nm (fs.take (k + 1)) = sans nm (fs.take k) := by
  unfold sans
  rw [List.take_add_one, h, List.filter_append]
  simp [hs]
theorem sans_no {fs : List FileD} {k : Nat} {f : FileD} {nm : ByteArray} (h : fs[k]? = some f) (hs : sameName f.name nm = false) : sans nm (fs.take (k + 1)) = sans nm (fs.take k) ++ [f] := by
  unfold sans
  rw [List.take_add_one, h, List.filter_append]
  simp [hs]
theorem sans_len (nm : ByteArray) (fs : List FileD) : (sans nm fs).length ≤ fs.length := List.length_filter_le _ _

set_option maxHeartbeats 4000000 in
theorem rwithout (A : Option Addr) (n c : Nat) (room fuse : Int) (down : Bool) (nm : ByteArray) (fs : List FileD) (S : Nat → Prop) (w : World) (hS : ∀ b, S b → b < w.heap.size) (hf : FilesIn w S A fs) (hn : fs.length = n) (hc : n ≤ 1000000) :
    Calls Try.prog 48 #[.agg #[.slice A n c, .int .i64 room, .int .i64 fuse, .bool down], .string nm] w (RetDisk S w ⟨sans nm fs, room, fuse, down⟩) := by
  have HN : Hid (fs.length = n) := Lib.hid hn
  clear hn
  have hinfo : Hid ((Try.prog.info? 51).map (fun i => (i.zero, i.size, i.bytes)) = some (some (.agg #[.string ByteArray.empty, .slice none 0 0, .int .i64 0]), 3, 48)) := Lib.hid (by kernel_rfl)
  obtain ⟨W0, hW0⟩ : ∃ W0, Hid ((w.alloc (.cells #[.slice A n c, .int .i64 room, .int .i64 fuse, .bool down] 24)).alloc (.cells #[.slice none 0 0, .int .i64 0, .int .i64 0, .bool false] 24) = W0) := ⟨_, Lib.hid rfl⟩
  have hb0 : Below w.heap.size w W0 := by rw [← hW0.out]; exact ((Below.refl _ _).alloc (Nat.le_refl _) _).alloc (by simp) _
  have hs0 : W0.heap.size = w.heap.size + 2 := by rw [← hW0.out]; simp
  have HB1 : Hid (W0.heap[w.heap.size]? = some (.cells #[.slice A n c, .int .i64 room, .int .i64 fuse, .bool down] 24 (0, 0))) := Lib.hid (by
    rw [← hW0.out, Below.heap_alloc _ _ _ (by simp)]; exact heap_alloc_new w _)
  have HB2 : Hid (W0.heap[w.heap.size + 1]? = some (.cells #[.slice none 0 0, .int .i64 0, .int .i64 0, .bool false] 24 (0, 0))) := Lib.hid (by
    rw [← hW0.out]; simpa using heap_alloc_new (w.alloc (.cells #[.slice A n c, .int .i64 room, .int .i64 fuse, .bool down] 24)) (.cells #[.slice none 0 0, .int .i64 0, .int .i64 0, .bool false] 24))
  have HS0 := Lib.hid hs0
  clear hs0
  go_enter Try.func48, Try.ntmps48
  go_wp2
  go_loopw [5, 6] (fun t i wr => ∃ (k m c' : Nat) (A' : Option Addr), k ≤ n ∧ i = .int .i64 k ∧ t = .slice A' m c' ∧ m ≤ k ∧ OwnElems rdFile 3 wr (w.heap.size + 2) 51 S A' m c' (sans nm (fs.take k)) ∧ Below (w.heap.size + 2) W0 wr) (fun _ i _ => n - (intOf i).toNat)
  case atStart => exact ⟨0, 0, 0, none, Nat.zero_le _, rfl, rfl, Nat.le_refl _, OwnElems.nil, by rw [hW0.out]; exact Below.refl _ _⟩
  case round =>
    obtain ⟨k, m, c', A', hk, rfl, rfl, hmk, hown, hbr⟩ := hrel
    have hsz := hbr.size
    rw [HS0.out] at hsz
    have HB1' : Hid (wr.heap[w.heap.size]? = some (.cells #[.slice A n c, .int .i64 room, .int .i64 fuse, .bool down] 24 (0, 0))) := Lib.hid ((hbr.block _ (by omega)).trans HB1.out)
    have HB2' : Hid (wr.heap[w.heap.size + 1]? = some (.cells #[.slice none 0 0, .int .i64 0, .int .i64 0, .bool false] 24 (0, 0))) := Lib.hid ((hbr.block _ (by omega)).trans HB2.out)
    have hbw : Below w.heap.size w wr := hb0.trans (hbr.mono (by omega))
    by_cases hlt : k < n
    · have x0 := (block_cell HB1'.out 0 _ rfl).1
      obtain ⟨b, off, f, A2, n2, c2, rfl, hb', HX, cell0, cell1, cell2, q1, q2, q3, q4, q5, q6⟩ := (hf.below hS hbw).at_ (j := k) (by rw [HN.out]; exact hlt)
      have hb := hS b hb'
      clear hb'
      by_cases hs : sameName f.name nm = true
      · have HE := Lib.hid (sans_yes HX.out hs)
        have hs' : (f.name.toList == nm.toList) = true := hs
        have hs2 : (f.name.toList != nm.toList) = false := by simpa [sameName] using hs
        clear hs
        go_wp2
        go_roundw
        case rel => exact ⟨k + 1, m, c', A', by omega, by go_num, rfl, by omega, by rw [HE.out]; exact hown, hbr⟩
        case measure => first | (simp [intOf]; done) | (simp [intOf]; omega)
      · have HE := Lib.hid (sans_no HX.out (by simpa using hs))
        have hs2 : (f.name.toList != nm.toList) = true := by simpa [sameName] using hs
        have hs' : (f.name.toList == nm.toList) = false := by simpa [sameName] using hs
        clear hs
        have HR : Hid (∀ o, rdFile (wr.alloc o) S [.string f.name, .slice A2 n2 c2, .int .i64 f.sure] f) := Lib.hid (fun o =>
          ⟨A2, n2, c2, rfl, q1, q2.below hS ((Below.refl _ _).alloc (by omega) o), q3.out, q4, q5, by unfold inI at q6; exact WalkArith.wf_i64 q6⟩)
        have H3 : Hid (∀ o b, S b → b < (wr.alloc o).heap.size ∧ some b ≠ (Value.slice A' m c').ownBlock) := Lib.hid (fun o b hb' =>
          ⟨by have := hS b hb'
              simp; omega, fun e => by have := (hown.block b e.symm).1; have := hS b hb'; omega⟩)
        go_wp2_with (at_builtin; refine wpList_append_elems rfl (.tmp 22) (.tmp 28) _ rfl keeps_file leaf_file (by decide) (w.heap.size + 2) 51 _ 48 Try.underlying22 hinfo.out rfl rfl (hown.alloc keeps_file (fun b hb' => Nat.lt_of_lt_of_le (hS b hb') (by omega)) _) rfl (each_one rfl (HR.out _)) (cells_new rfl 1) rfl (fun _ h => h) (H3.out _) (by unfold maxLen; omega) (by omega) (by simp; omega) ?_; intro A3 c3 w3 hown3 hgr3 hat3; have hb3 : Below (w.heap.size + 2) W0 w3 := (hbr.alloc hsz _).grown hgr3 (by simp; omega) (fun g hg => (hown.block g hg).1); clear hgr3 hat3)
        go_roundw
        case rel => exact ⟨k + 1, m + 1, c3, A3, by omega, by go_num, rfl, by omega, by rw [HE.out]; exact hown3, hb3⟩
        case measure => first | (simp [intOf]; done) | (simp [intOf]; omega)
    · have HT : Hid (sans nm (fs.take k) = sans nm fs) := Lib.hid (by rw [List.take_of_length_le (by rw [HN.out]; omega)])
      rw [HT.out] at hown
      obtain ⟨x0, f0⟩ := block_cell HB1'.out 0 (.slice A n c) rfl
      obtain ⟨x1, f1⟩ := block_cell HB1'.out 1 (.int .i64 room) rfl
      obtain ⟨x2, f2⟩ := block_cell HB1'.out 2 (.int .i64 fuse) rfl
      obtain ⟨x3, f3⟩ := block_cell HB1'.out 3 (.bool down) rfl
      obtain ⟨y0, g0⟩ := block_cell HB2'.out 0 (.slice none 0 0) rfl
      obtain ⟨y1, g1⟩ := block_cell HB2'.out 1 (.int .i64 0) rfl
      obtain ⟨y2, g2⟩ := block_cell HB2'.out 2 (.int .i64 0) rfl
      obtain ⟨y3, g3⟩ := block_cell HB2'.out 3 (.bool false) rfl
      have hown5 := fun (w5 : World) (h : OwnElems rdFile 3 w5 (w.heap.size + 2) 51 S A' m c' (sans nm fs)) (p : Addr) (hp : p.block = w.heap.size ∨ p.block = w.heap.size + 1) (u : Value) =>
        h.setBelow keeps_file (p := p) (by omega) (fun b hb' => by have := hS b hb'; omega) u
      have HF := Lib.hid (hown5 _ (hown5 _ (hown5 _ (hown5 _ (hown5 wr hown ⟨w.heap.size, 0, none⟩ (.inl rfl) (.slice A' m c')) ⟨w.heap.size + 1, 0, none⟩ (.inr rfl) (.slice A' m c')) ⟨w.heap.size + 1, 1, none⟩ (.inr rfl) (.int .i64 room)) ⟨w.heap.size + 1, 2, none⟩ (.inr rfl) (.int .i64 fuse)) ⟨w.heap.size + 1, 3, none⟩ (.inr rfl) (.bool down))
      clear hown5
      go_wp2
      refine bodyPost_ret (v := .agg #[.slice A' m c', .int .i64 room, .int .i64 fuse, .bool down]) (by simp [results, Try.results48, go_sem, y0, y1, y2, y3]) rfl ⟨A', m, c', rfl, ?_, Lib.hid hown.len, ?_, ?_, ?_⟩
      · exact HF.out.elems keeps_file (by decide) (fun b hb' => .inl hb') (fun g h1 h2 => .inr ⟨by omega, h2⟩)
      · exact hown.cap.1
      · exact hown.cap.2
      · exact ((((hbw.setCell (by simp) _).setCell (by simp) _).setCell (by simp) _).setCell (by simp) _).setCell (by simp) _

end Go.Proofs.Ytjmjpnmlpdbbpaa.disk
