/-
  Contract of the document's own answer for layer 3: Back.
-/
import Derived.Test.YtjmjpnmlpdbbpaaDiskRef7
import Derived.Test.YtjmjpnmlpdbbpaaFiles2
namespace Go.Proofs.Ytjmjpnmlpdbbpaa.disk
open Go.RowKit
set_option linter.unusedVariables false
set_option linter.unusedSimpArgs false

theorem back_take {ks : List Int} {fs : List FileD} {k : Nat} {f : FileD} (h : fs[k]? = some f) : (backF ks fs).take (k + 1) = (backF ks fs).take k ++ [keptOf ks k f] := by
  rw [List.take_add_one, back_get, h]
  rfl
theorem bys_take' {w : World} {S : Nat → Prop} {A : Option Addr} {bs : List Nat} (h : BysIn w S A bs) (m : Nat) : BysIn w S A (bs.take m) := by
  obtain ⟨h1, h2⟩ := h
  have e : toI (bs.take m) = (toI bs).take m := by unfold toI; rw [List.map_take]
  refine ⟨fun x hx => h1 x (by rw [e] at hx; exact List.mem_of_mem_take hx), fun hn => ?_⟩
  rw [e] at hn ⊢
  obtain ⟨b, off, e1, e2, e3⟩ := h2 (by rw [List.length_take] at hn; omega)
  refine ⟨b, off, e1, e2, fun j hj => ?_⟩
  rw [List.length_take] at hj
  rw [e3 j (by omega)]
  simp only [List.getD_eq_getElem?_getD]
  rw [List.getElem?_take, if_pos (by omega)]

set_option maxHeartbeats 8000000 in
theorem rback (A Ak : Option Addr) (n c nk ck : Nat) (room fuse fz : Int) (down : Bool) (fs : List FileD) (ks : List Int) (S : Nat → Prop) (w : World) (hS : ∀ b, S b → b < w.heap.size) (hf : FilesIn w S A fs) (hn : fs.length = n) (hc : n ≤ 1000000) (hnc : n ≤ c) (hcm : c ≤ maxLen) (hr : inI room) (hfu : inI fuse)
    (hk : Ints .i64 w w.heap.size Ak ks) (hkn : ks.length = nk) (hkm : nk ≤ 1000000) (hfz : inI fz) :
    Calls Try.prog 29 #[.agg #[.slice A n c, .int .i64 room, .int .i64 fuse, .bool down], .slice Ak nk ck, .int .i64 fz] w (RetOp S w (backD ⟨fs, room, fuse, down⟩ ks fz)) := by
  have HN : Hid (fs.length = n) := Lib.hid hn
  have HKN : Hid (ks.length = nk) := Lib.hid hkn
  have HC : Hid (n ≤ maxLen) := Lib.hid (by unfold maxLen; omega)
  have HNC := Lib.hid hnc
  have HCM := Lib.hid hcm
  have HF : Hid (∀ W, Below w.heap.size w W → Files W w.heap.size A fs) := Lib.hid (fun W h => hf.files hS h)
  have HFI : Hid (∀ W, Below w.heap.size w W → FilesIn W S A fs) := Lib.hid (fun W h => hf.below hS h)
  clear hn hkn hnc hcm
  have hw0 : ∀ o1 o2 : Obj, Below w.heap.size w ((w.alloc o1).alloc o2) := fun o1 o2 => ((Below.refl _ _).alloc (Nat.le_refl _) o1).alloc (by simp) o2
  have HW0 := Lib.hid hw0
  clear hw0
  have K0 : Hid (((w.alloc (.cells #[.slice A n c, .int .i64 room, .int .i64 fuse, .bool down] 24)).alloc (.cells #[.slice none 0 0, .int .i64 0, .int .i64 0, .bool false] 24)).heap[w.heap.size]? = some (.cells #[.slice A n c, .int .i64 room, .int .i64 fuse, .bool down] 24 (0, 0))) := Lib.hid (by
    rw [Below.heap_alloc _ _ _ (by simp)]; exact heap_alloc_new w _)
  have K1 : Hid (((w.alloc (.cells #[.slice A n c, .int .i64 room, .int .i64 fuse, .bool down] 24)).alloc (.cells #[.slice none 0 0, .int .i64 0, .int .i64 0, .bool false] 24)).heap[w.heap.size + 1]? = some (.cells #[.slice none 0 0, .int .i64 0, .int .i64 0, .bool false] 24 (0, 0))) := Lib.hid (by
    simpa using heap_alloc_new (w.alloc (.cells #[.slice A n c, .int .i64 room, .int .i64 fuse, .bool down] 24)) (.cells #[.slice none 0 0, .int .i64 0, .int .i64 0, .bool false] 24))
  have hinfo : Hid ((Try.prog.info? 51).map (fun i => (i.zero, i.size, i.bytes)) = some (some (.agg #[.string ByteArray.empty, .slice none 0 0, .int .i64 0]), 3, 48)) := Lib.hid (by kernel_rfl)
  obtain ⟨x, hx⟩ : ∃ x, Hid (rightB ⟨fs, room, fuse, down⟩ = x) := ⟨_, Lib.hid rfl⟩
  by_cases hbad : x = false ∨ fz < -1
  · have HR : Hid (backD ⟨fs, room, fuse, down⟩ ks fz = (⟨fs, room, fuse, down⟩, 1)) := Lib.hid (by
      unfold backD
      rw [if_neg (by rw [hx.out]; rintro ⟨h1, h2⟩; exact hbad.elim (fun h => by rw [h] at h1; cases h1) (fun h => by omega))])
    have go : ∀ b : Bool, x = b → (b = false ∨ fz < -1) → Calls Try.prog 29 #[.agg #[.slice A n c, .int .i64 room, .int .i64 fuse, .bool down], .slice Ak nk ck, .int .i64 fz] w (RetOp S w (⟨fs, room, fuse, down⟩, 1)) := by
      rintro b rfl hb
      have hz : x = true → fz < -1 := fun e => hb.elim (fun h => by rw [e] at h; cases h) (fun h => h)
      clear hb hbad
      rcases x with _ | _
      all_goals
        first | replace hz := hz rfl | clear hz
        go_enter Try.func29, Try.ntmps29
        go_wp2_with ((with_reducible refine (rright_is _ _ _ w.heap.size _ _ _ fs _ _ (by simp <;> omega) (HF.out _ (HW0.out _ _)) HN.out HC.out hr hfu hx.out).mono ?_); rintro e w1 ⟨rfl, hg1⟩; have hgw1 := (HW0.out _ _).trans (hg1.mono (by simp <;> omega)); have hs1 : w.heap.size + 2 ≤ w1.heap.size := (by have := hg1.size; simp at this; omega); have E0_1 := Lib.hid ((hg1.block w.heap.size (by simp <;> omega)).trans K0.out); have E1_1 := Lib.hid ((hg1.block (w.heap.size + 1) (by simp <;> omega)).trans K1.out); obtain ⟨x0_1, f0_1⟩ := block_cell E0_1.out 0 _ rfl; obtain ⟨x1_1, f1_1⟩ := block_cell E0_1.out 1 _ rfl; obtain ⟨x2_1, f2_1⟩ := block_cell E0_1.out 2 _ rfl; obtain ⟨x3_1, f3_1⟩ := block_cell E0_1.out 3 _ rfl; obtain ⟨y0_1, g0_1⟩ := block_cell E1_1.out 0 _ rfl; obtain ⟨y1_1, g1_1⟩ := block_cell E1_1.out 1 _ rfl; obtain ⟨y2_1, g2_1⟩ := block_cell E1_1.out 2 _ rfl; obtain ⟨y3_1, g3_1⟩ := block_cell E1_1.out 3 _ rfl)
        refine bodyPost_ret (v := .tuple #[.agg #[.slice A n c, .int .i64 room, .int .i64 fuse, .bool down], .int .i64 1]) (by simp [results, Try.results29, go_sem, y0_1, y1_1, y2_1, y3_1]) rfl ?_
        exact ⟨A, n, c, rfl, files_old hf hS (below_set4 hgw1 (by omega) _ _ _ _), HN, HNC.out, HCM.out, below_set4 hgw1 (by omega) _ _ _ _⟩
    rw [HR.out]
    exact go x rfl hbad
  · rw [not_or] at hbad
    obtain ⟨hx1, hz⟩ := hbad
    have hz' : -1 ≤ fz := by omega
    obtain rfl : x = true := by simpa using hx1
    clear hx1 hz
    have HR : Hid (backD ⟨fs, room, fuse, down⟩ ks fz = (⟨backF ks fs, room, fz, false⟩, 0)) := Lib.hid (by unfold backD; rw [if_pos ⟨hx.out, hz'⟩])
    have HOK : Hid (∀ f ∈ fs, 0 ≤ f.sure ∧ f.sure ≤ (f.data.length : Int) ∧ f.data.length ≤ 65536) := Lib.hid (fun f hm => ((file_iff f).1 ((right_files hx.out).2.1 f hm)).2)
    go_enter Try.func29, Try.ntmps29
    go_wp2_with ((with_reducible refine (rright_is _ _ _ w.heap.size _ _ _ fs _ _ (by simp <;> omega) (HF.out _ (HW0.out _ _)) HN.out HC.out hr hfu hx.out).mono ?_); rintro e w1 ⟨rfl, hg1⟩; have hgw1 := (HW0.out _ _).trans (hg1.mono (by simp <;> omega)); have hs1 : w.heap.size + 2 ≤ w1.heap.size := (by have := hg1.size; simp at this; omega); have E0_1 := Lib.hid ((hg1.block w.heap.size (by simp <;> omega)).trans K0.out); have E1_1 := Lib.hid ((hg1.block (w.heap.size + 1) (by simp <;> omega)).trans K1.out); obtain ⟨x0_1, f0_1⟩ := block_cell E0_1.out 0 _ rfl; obtain ⟨x1_1, f1_1⟩ := block_cell E0_1.out 1 _ rfl; obtain ⟨x2_1, f2_1⟩ := block_cell E0_1.out 2 _ rfl; obtain ⟨x3_1, f3_1⟩ := block_cell E0_1.out 3 _ rfl)
    clear x0_1 f0_1 x1_1 f1_1 x2_1 f2_1 x3_1 f3_1
    have HL : Hid (∀ b, S b → b < w1.heap.size) := Lib.hid (fun b h => by have := hS b h; omega)
    go_loopw [8, 9] (fun t i wr => ∃ (k c' : Nat) (A' : Option Addr), k ≤ n ∧ i = .int .i64 k ∧ t = .slice A' k c' ∧ OwnElems rdFile 3 wr w1.heap.size 51 S A' k c' ((backF ks fs).take k) ∧ Below w1.heap.size w1 wr) (fun _ i _ => n - (intOf i).toNat)
    case atStart => exact ⟨0, 0, none, Nat.zero_le _, rfl, rfl, OwnElems.nil, Below.refl _ _⟩
    case round =>
      obtain ⟨k, c', A', hkn, rfl, rfl, hown, hbr⟩ := hrel
      have hsz := hbr.size
      have hbw : Below w.heap.size w wr := hgw1.trans (hbr.mono hgw1.size)
      have E0r := Lib.hid ((hbr.block w.heap.size (by omega)).trans E0_1.out)
      have E1r := Lib.hid ((hbr.block (w.heap.size + 1) (by omega)).trans E1_1.out)
      obtain ⟨x0, f0⟩ := block_cell E0r.out 0 _ rfl
      obtain ⟨x1, f1⟩ := block_cell E0r.out 1 _ rfl
      by_cases hlt : k < n
      · obtain ⟨b, off, f, A2, n2, c2, rfl, hbS, HX, cell0, cell1, cell2, q1, q2, q3, q4, q5, q6⟩ := ((HFI.out _ hbw)).at_ (j := k) (by rw [HN.out]; exact hlt)
        have hb := hS b hbS
        clear hbS
        obtain ⟨o1, o2, o3⟩ := HOK.out f (List.mem_of_getElem? HX.out)
        rw [q3.out] at o2 o3
        obtain ⟨s, hs⟩ : ∃ s : Nat, f.sure = (s : Int) := ⟨f.sure.toNat, by omega⟩
        obtain ⟨tl, rfl⟩ : ∃ tl, n2 = s + tl := ⟨n2 - s, by omega⟩
        have HSE := Lib.hid hs
        rw [hs] at cell2
        clear o1 o2 q6
        have HE := Lib.hid (back_take (ks := ks) HX.out)
        have hb1 : b < wr.heap.size := by omega
        have hb2 : w.heap.size < wr.heap.size := by omega
        have hb3 : b ≠ wr.heap.size := by omega
        have key : ∀ l : Nat, l ≤ tl → leftOf ks k f = l → Hid (∀ W, Below w.heap.size wr W → rdFile W S [.string f.name, .slice A2 (s + l) c2, .int .i64 ((s : Int) + (l : Int))] (keptOf ks k f)) := fun l hl e => Lib.hid (fun W hW => by
          have hh : (keptOf ks k f).data = f.data.take (s + l) := by unfold keptOf; rw [e, HSE.out]; simp
          have hh2 : (keptOf ks k f).sure = (s : Int) + (l : Int) := by unfold keptOf; rw [e, HSE.out]
          unfold maxLen at q5
          refine ⟨A2, s + l, c2, ?_, q1, ?_, ?_, by omega, by unfold maxLen; omega, ?_⟩
          · rw [hh2]; rfl
          · rw [hh]; exact (bys_take' q2 _).below hS hW
          · rw [hh, List.length_take, q3.out]; omega
          · rw [hh2]; exact WalkArith.wf_i64 (by omega))
        have HKEY := Lib.hid key
        clear key hs
        have HBR := Lib.hid hbr
        have HBW := Lib.hid hbw
        rcases (show nk = 0 ∨ 0 < nk by omega) with hk0 | hk0
        · have R : Hid (∀ W, Below w.heap.size wr W → rdFile W S [.string f.name, .slice A2 s c2, .int .i64 (s : Int)] (keptOf ks k f)) := by simpa using HKEY.out 0 (by omega) (by unfold leftOf; rw [HKN.out, if_pos hk0]; simp)
          subst hk0
          go_wp2_with (at_builtin; refine wpList_push_at rfl (.tmp 68) (.tmp 70) _ rfl keeps_file leaf_file (by decide) w1.heap.size S 51 _ 48 Try.underlying22 hinfo.out rfl rfl rfl (by simp) (hown.alloc keeps_file (fun b' h' => by have := hS b' h'; omega) _) (R.out _ ((Below.refl _ _).alloc (by omega) _)) rfl HL.out (by simp; omega) (by unfold maxLen; omega) (by omega) ?_; intro A4 c4 w4 hown4 hg4; have hb4 : Below w1.heap.size wr w4 := ((Below.refl _ _).alloc hsz _).trans hg4)
          go_roundw
          case rel => exact ⟨k + 1, c4, A4, by omega, by go_num, rfl, by rw [HE.out]; exact hown4, HBR.out.trans hb4⟩
          case measure => first | (simp [intOf]; done) | (simp [intOf]; omega)
        · obtain ⟨r, hrr⟩ : ∃ r, Hid (k % nk = r) := ⟨_, Lib.hid rfl⟩
          have hrl : r < nk := by rw [← hrr.out]; exact Nat.mod_lt _ hk0
          have hm : (k : Int) % (nk : Int) = (r : Int) := by rw [← hrr.out]; exact (Int.natCast_emod k nk).symm
          obtain ⟨bk, offk, kv, rfl, hbk, HXK, cellk, hwk⟩ := (hk.below (hbw)).at_ (j := r) (by rw [HKN.out]; exact hrl)
          have hbk1 : bk < wr.heap.size := by omega
          have hkv := inI_of_wf hwk
          unfold inI at hkv
          clear hwk
          have HLE : Hid (leftOf ks k f = min (max kv 0).toNat tl) := Lib.hid (by
            unfold leftOf
            rw [if_neg (by rw [HKN.out]; omega), HKN.out, hrr.out, List.getD_eq_getElem?_getD, HXK.out, q3.out, HSE.out]
            simp)
          rcases (show kv < 0 ∨ (0 ≤ kv ∧ (tl : Int) < kv) ∨ (0 ≤ kv ∧ kv ≤ (tl : Int)) by omega) with hv | ⟨hv, hv2⟩ | ⟨hv, hv2⟩
          · have R : Hid (∀ W, Below w.heap.size wr W → rdFile W S [.string f.name, .slice A2 s c2, .int .i64 (s : Int)] (keptOf ks k f)) := by simpa using HKEY.out 0 (by omega) (by rw [HLE.out]; omega)
            go_wp2_with (at_builtin; refine wpList_push_at rfl (.tmp 68) (.tmp 70) _ rfl keeps_file leaf_file (by decide) w1.heap.size S 51 _ 48 Try.underlying22 hinfo.out rfl rfl rfl (by simp) (hown.alloc keeps_file (fun b' h' => by have := hS b' h'; omega) _) (R.out _ ((Below.refl _ _).alloc (by omega) _)) rfl HL.out (by simp; omega) (by unfold maxLen; omega) (by omega) ?_; intro A4 c4 w4 hown4 hg4; have hb4 : Below w1.heap.size wr w4 := ((Below.refl _ _).alloc hsz _).trans hg4)
            go_roundw
            case rel => exact ⟨k + 1, c4, A4, by omega, by go_num, rfl, by rw [HE.out]; exact hown4, HBR.out.trans hb4⟩
            case measure => first | (simp [intOf]; done) | (simp [intOf]; omega)
          · have R : Hid (∀ W, Below w.heap.size wr W → rdFile W S [.string f.name, .slice A2 (s + tl) c2, .int .i64 ((s : Int) + ((s : Int) + (tl : Int) - (s : Int)))] (keptOf ks k f)) := by rw [show (s : Int) + ((s : Int) + (tl : Int) - (s : Int)) = (s : Int) + (tl : Int) by omega]; exact HKEY.out tl (by omega) (by rw [HLE.out]; omega)
            go_wp2_with (at_builtin; refine wpList_push_at rfl (.tmp 68) (.tmp 70) _ rfl keeps_file leaf_file (by decide) w1.heap.size S 51 _ 48 Try.underlying22 hinfo.out rfl rfl rfl (by simp) (hown.alloc keeps_file (fun b' h' => by have := hS b' h'; omega) _) (R.out _ ((Below.refl _ _).alloc (by omega) _)) rfl HL.out (by simp; omega) (by unfold maxLen; omega) (by omega) ?_; intro A4 c4 w4 hown4 hg4; have hb4 : Below w1.heap.size wr w4 := ((Below.refl _ _).alloc hsz _).trans hg4)
            go_roundw
            case rel => exact ⟨k + 1, c4, A4, by omega, by go_num, rfl, by rw [HE.out]; exact hown4, HBR.out.trans hb4⟩
            case measure => first | (simp [intOf]; done) | (simp [intOf]; omega)
          · obtain ⟨q, rfl⟩ : ∃ q : Nat, kv = (q : Int) := ⟨kv.toNat, by omega⟩
            have R := HKEY.out q (by omega) (by rw [HLE.out]; omega)
            go_wp2_with (at_builtin; refine wpList_push_at rfl (.tmp 68) (.tmp 70) _ rfl keeps_file leaf_file (by decide) w1.heap.size S 51 _ 48 Try.underlying22 hinfo.out rfl rfl rfl (by simp) (hown.alloc keeps_file (fun b' h' => by have := hS b' h'; omega) _) (R.out _ ((Below.refl _ _).alloc (by omega) _)) rfl HL.out (by simp; omega) (by unfold maxLen; omega) (by omega) ?_; intro A4 c4 w4 hown4 hg4; have hb4 : Below w1.heap.size wr w4 := ((Below.refl _ _).alloc hsz _).trans hg4)
            go_roundw
            case rel => exact ⟨k + 1, c4, A4, by omega, by go_num, rfl, by rw [HE.out]; exact hown4, HBR.out.trans hb4⟩
            case measure => first | (simp [intOf]; done) | (simp [intOf]; omega)
      · have HT : Hid ((backF ks fs).take k = backF ks fs) := Lib.hid (by rw [List.take_of_length_le (by rw [back_len, HN.out]; omega)])
        have HBW := Lib.hid hbw
        obtain ⟨y0, g0⟩ := block_cell E1r.out 0 _ rfl
        obtain ⟨y1, g1⟩ := block_cell E1r.out 1 _ rfl
        obtain ⟨y2, g2⟩ := block_cell E1r.out 2 _ rfl
        obtain ⟨y3, g3⟩ := block_cell E1r.out 3 _ rfl
        go_wp2
        refine bodyPost_ret (v := .tuple #[.agg #[.slice A' k c', .int .i64 room, .int .i64 fz, .bool false], .int .i64 0]) (by simp [results, Try.results29, go_sem, y0, y1, y2, y3]) rfl ?_
        rw [HR.out]
        have h9 : FilesIn wr (fun b => S b ∨ (w1.heap.size ≤ b ∧ b < wr.heap.size)) A' (backF ks fs) := by
          rw [← HT.out]
          exact hown.elems keeps_file (by decide) (fun b h => .inl h) (fun g h1 h2 => .inr ⟨h1, h2⟩)
        exact ⟨A', k, c', rfl, files_keep h9 (fun b' h' => by
          rcases h' with h' | h'
          · have := hS b' h'; exact ⟨by omega, .inl h'⟩
          · exact ⟨by omega, .inr (by omega)⟩) _ _ _ _, Lib.hid (by have := hown.len; rw [HT.out] at this; exact this), hown.cap.1, hown.cap.2, below_set4 HBW.out (by omega) _ _ _ _⟩

end Go.Proofs.Ytjmjpnmlpdbbpaa.disk
