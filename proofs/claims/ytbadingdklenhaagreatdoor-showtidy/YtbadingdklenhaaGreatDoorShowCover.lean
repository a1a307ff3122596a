/-
  What a page's cover writes (layer 11): all sets, or more than a text may have.
-/
import Derived.Test.YtbadingdklenhaaGreatDoorShowKnap
import Derived.Test.YtbadingdklenhaaGreatDoorInstOwn
import Derived.Laws.RangeAny
import Derived.Deep.Grids
import Derived.Deep.Onto
namespace Go.Proofs.YtbadingdklenhaaGreatDoor
set_option maxRecDepth 100000
open Go.RowKit

theorem isOver_any (b : Nat) (l : List UInt8) (w0 w : World) (h : Pg b l w0 w) : Calls Tryz.prog 23 #[.pointer (some ⟨b, 0, none⟩)] w fun e w' => e = .returned (.bool (decide (1048576 < l.length))) ∧ w' = w := by
  have LE := len_any b b _ w h.page
  rw [Lib.byteCells_length] at LE
  clear h
  go_enter Tryz.func23, Tryz.ntmps23
  go_wp2_with fail
  with_reducible refine LE.mono ?_
  rintro e w1 ⟨rfl, hw1⟩
  obtain rfl := hw1.symm
  have d : decide ((1048576 : Int) < (l.length : Int)) = decide (1048576 < l.length) := by
    rw [decide_eq_decide]
    omega
  go_wp2
  go_ret
  exact ⟨rfl, rfl⟩
theorem made_nlW (N : Nat) : madeCells #[.int .i64 0] N = (nl (List.replicate N 0)).toArray := by
  apply Array.ext
  · simp [madeCells, nl]
  · intro i h1 h2
    simp [madeCells, nl, Nat.mod_one]
theorem nl_set {l : List Int} {k : Nat} {x : Int} : nl (l.set k x) = (nl l).set k (.int .i64 x) := by unfold nl; rw [List.map_set]
set_option maxHeartbeats 1000000 in
theorem wide_any (F : Nat → Prop) (u : Value) (l : List Int) (w : World) (h : Ints F w u l) (hl : l.length ≤ 4096) :
    Calls Tryz.prog 73 #[u] w fun e w' => e = .returned (.slice (some ⟨w.heap.size, 0, none⟩) l.length l.length) ∧ w'.heap[w.heap.size]? = some (.cells (nl l).toArray 2 (0, 0)) ∧ Below w.heap.size w w' := by
  obtain ⟨A, C, rfl, hC, hM⟩ := h.form
  unfold maxLen at hM
  obtain ⟨nn1, nn2, nn3, nn4, nn5⟩ := info_num
  have hmk : ∀ W, (Instr.makeSlice 68 (.int .i64 (l.length : Int)) (.int .i64 (l.length : Int))).run Tryz.prog W = .ok (.slice (some ⟨W.heap.size, 0, none⟩) l.length l.length) (W.alloc (.cells (madeCells #[.int .i64 0] l.length) 2)) := by
    intro W
    have := run_make (P := Tryz.prog) W 68 2 nn1 (.int .i64 0) Tryz.underlying68 nn2 nn3 .i64 .i64 (l.length : Int) (l.length : Int) (by omega) (by omega) (by rw [nn5]; omega) (by omega)
    rw [nn4] at this
    simpa [Value.cells] using this
  obtain ⟨W1, hW1⟩ : ∃ W, W = w.alloc (.cells (madeCells #[.int .i64 0] l.length) 2) := ⟨_, rfl⟩
  have nb := new_below w (.cells (madeCells #[.int .i64 0] l.length) 2)
  have hn := heap_alloc_new w (.cells (madeCells #[.int .i64 0] l.length) 2)
  rw [← hW1] at nb hn
  rw [made_nlW] at hn
  have H := Lib.hid h
  have HN := Lib.hid hn
  have HB := Lib.hid nb
  clear h nb hn
  go_enter Tryz.func73, Tryz.ntmps73
  go_wp2
  rw [← hW1]
  clear hW1
  go_loopw [11] (fun i wr => ∃ (k : Nat) (r : List Int), k ≤ l.length ∧ i = .int .i64 (k : Nat) ∧ r.length = l.length ∧ Hid (wr.heap[w.heap.size]? = some (.cells (nl r).toArray 2 (0, 0))) ∧ Hid (r.take k = l.take k) ∧ Hid (Below w.heap.size w wr)) (fun i _ => l.length - (intOf i).toNat)
  case atStart => exact ⟨0, List.replicate l.length 0, by omega, rfl, by simp, HN, by show _ = _; simp, HB⟩
  case round =>
    obtain ⟨k, r, hk, rfl, hrl, hr, ht, hb⟩ := hrel
    by_cases hlt : k < l.length
    · obtain ⟨g, off, x, rfl, _, hgl, hx, c0⟩ := (H.out.next hb.out).get hlt
      have c01 : (0 : Int) ≤ (k : Int) := by omega
      have c02 : (k : Int) < (l.length : Int) := by omega
      have hrc : ∃ y, wr.cell? ⟨w.heap.size, k, none⟩ = some (.int .i64 y) := by
        refine ⟨r.getD k 0, ?_⟩
        rw [cell_of_row wr w.heap.size k _ _ _ hr.out, ← Array.getElem?_toList]
        simp only [nl, List.getElem?_map]
        rw [List.getD_eq_getElem?_getD, List.getElem?_eq_getElem (by omega)]
        rfl
      obtain ⟨y, hy⟩ := hrc
      have hfz : wr.frozen? ⟨w.heap.size, k, none⟩ = false := frozen_of_row wr _ _ _ _ hr.out
      have HR : Hid ((wr.setCell ⟨w.heap.size, k, none⟩ (.int .i64 x)).heap[w.heap.size]? = some (.cells (nl (r.set k x)).toArray 2 (0, 0))) := by
        show _ = _
        rw [heap_setCell_same wr w.heap.size k _ _ _ hr.out, List.setIfInBounds_toArray, nl_set]
      have HTK : Hid ((r.set k x).take (k + 1) = l.take (k + 1)) := by
        show _ = _
        have h1 := ht.out
        rw [List.take_succ_eq_append_getElem (l := r.set k x) (by simp; omega), List.take_succ_eq_append_getElem (l := l) hlt, List.take_set_of_le (Nat.le_refl _), h1]
        congr 1
        rw [List.getElem_set_self]
        have := (List.getElem?_eq_some_iff.1 hx).2
        rw [this]
      have HB2 := Lib.hid (hb.out.setCell (p := ⟨w.heap.size, k, none⟩) (Nat.le_refl _) (.int .i64 x))
      have hrs : (r.set k x).length = l.length := by simpa using hrl
      have hbl := lt_of_block hr.out
      clear hr ht hb hx
      go_wp2
      go_roundw
      case rel => exact ⟨k + 1, _, by omega, by go_num, hrs, HR, HTK, HB2⟩
      case measure => simp [intOf]; omega
    · obtain rfl : k = l.length := by omega
      have h1 := ht.out
      rw [List.take_length, List.take_of_length_le (by omega)] at h1
      subst h1
      have HR := hr
      have HB2 := hb
      clear hr ht hb
      go_wp2
      go_ret
      exact ⟨rfl, HR.out, HB2.out⟩

theorem setsT_drop {l : List (Int × List Int)} {k : Nat} {x : Int × List Int} (h : l[k]? = some x) : setsT (l.drop k) = setW ++ (numT x.1 ++ (58 :: (numsT x.2 ++ (10 :: setsT (l.drop (k + 1)))))) := by
  obtain ⟨hk, hx⟩ := List.getElem?_eq_some_iff.1 h
  rw [List.drop_eq_getElem_cons hk, hx]
  rfl
theorem ris_len {z : Int} : ∀ (l : List Int) (m : Int), ris z m l = true → m ≤ z → (l.length : Int) ≤ z - m
  | [], m, _, h => by simp; omega
  | x :: r, m, h, hz => by
    simp only [ris, Bool.and_eq_true, decide_eq_true_eq] at h
    have := ris_len r (x + 1) h.2 (by omega)
    rw [List.length_cons]
    omega
/-- What wide has made, as numbers of a line. -/
theorem ints_wide (b M : Nat) (l : List Int) (w : World) (h : w.heap[M]? = some (.cells (nl l).toArray 2 (0, 0))) (hl : l.length ≤ 4096) (hb : b < M) : Ints (Kp b w) w (.slice (some ⟨M, 0, none⟩) l.length l.length) l := by
  refine ⟨_, _, rfl, Nat.le_refl _, by unfold maxLen; omega, fun _ => ⟨M, 0, rfl, .inr ⟨by omega, _, h, fun c fz e => by injection e with _ e2 _; exact absurd e2 (by decide)⟩, lt_of_block h, fun j v hj => ?_⟩⟩
  rw [Nat.zero_add, cell_of_row _ M j _ _ _ h, ← Array.getElem?_toList]
  exact hj

set_option maxHeartbeats 4000000 in
theorem cover_page (b : Nat) (I : In) (vi vc vs : Value) (uc us : List Value) (w0 w : World) (hk : I.kind = 3) (hP : Pg b [] w0 w) (hE : Env b I vi vc vs uc us w0) :
    Calls Tryz.prog 50 #[.pointer (some ⟨b, 0, none⟩), inV I vi vc vs] w fun e w' => e = .returned (.tuple #[]) ∧ ∃ t, Pg b t w0 w' ∧ (t = instT I ∨ (1048576 < t.length ∧ 1048576 < (instT I).length)) := by
  obtain ⟨A0, C0, rfl, k0, m0⟩ := hE.sets.form
  unfold maxLen at m0
  have hslen := hE.may.slen
  have hsm := hE.may.sets
  have hsz := hE.may.size
  have hel : ∀ s ∈ I.sets, s.2.length ≤ 4096 := fun s hs => by
    have := ris_len _ _ (hsm s hs).2 hsz.1
    omega
  have hrT := setsT_len (m := 4096) I.sets (fun s hs => by
    have h1 := hsm s hs
    exact ⟨hel s hs, ⟨by omega, by omega⟩, fun n hn => by have h2 := ris_in _ _ h1.2 n hn; exact ⟨by omega, by omega⟩⟩)
  have hrT2 : (setsT I.sets).length ≤ 500000000 := Nat.le_trans hrT (by
    have := Nat.mul_le_mul_left (22 * 4096 + 27) hslen
    omega)
  have hct := numT_len (n := I.size) ⟨by omega, by omega⟩
  have ei : instT I = cW ++ (numT I.size ++ (10 :: setsT I.sets)) := by unfold instT; rw [if_neg (by omega), if_pos hk]
  rw [ei]
  have NM := fun U hU => name_eq 3 U hU
  rw [show name 3 = ⟨#[99, 111, 118, 101, 114]⟩ from rfl] at NM
  have LN := fun l h u ns W hP hT hN h64 hlen => line_at b l h u ns W hP hT hE.gt hN h64 hlen
  have HSM := Lib.hid hsm
  have HEL := Lib.hid hel
  unfold inV
  rw [hk]
  obtain ⟨W1, hW1⟩ : ∃ W, W = w.alloc (.cells #[.int .i64 3, .int .i64 I.cap, vi, vc, .int .i64 I.size, .slice A0 I.sets.length C0] 33) := ⟨_, rfl⟩
  have hb := hP.lt
  have nb := new_below w (.cells #[.int .i64 3, .int .i64 I.cap, vi, vc, .int .i64 I.size, .slice A0 I.sets.length C0] 33)
  rw [← hW1] at nb
  have P01 := hP.next nb
  have HE := Lib.hid (hE.pg P01)
  have P1 := Pg.refl P01.page
  have hM : W1.heap[w.heap.size]? = some (.cells #[.int .i64 3, .int .i64 I.cap, vi, vc, .int .i64 I.size, .slice A0 I.sets.length C0] 33 (0, 0)) := by rw [hW1]; exact heap_alloc_new _ _
  have HM := Lib.hid hM
  have HP01 := Lib.hid P01
  clear hE nb hP hM P01 hk hsm ei hrT hel
  have hs1 := HP01.out.lt
  have x0 : W1.cell? ⟨w.heap.size, 0, none⟩ = some (.int .i64 3) := by unfold World.cell?; simp only [HM.out]; rfl
  have x4 : W1.cell? ⟨w.heap.size, 4, none⟩ = some (.int .i64 I.size) := by unfold World.cell?; simp only [HM.out]; rfl
  have x5 : W1.cell? ⟨w.heap.size, 5, none⟩ = some (.slice A0 I.sets.length C0) := by unfold World.cell?; simp only [HM.out]; rfl
  have P2 := P1.next ((new_below W1 (.cells #[.int .i64 I.size] 2)).drew)
  have N2 := ints_new b W1 [I.size] (by simp) #[.int .i64 I.size] rfl hs1
  have L1 := LN [] ⟨#[99, 111, 118, 101, 114]⟩ (.slice (some ⟨W1.heap.size, 0, none⟩) 1 1) [I.size] (W1.alloc (.cells #[.int .i64 I.size] 2)).drew P2.page (P2.tab HE.out.tab HE.out.gt) (N2.next (Below.refl _ _).drew) (fun n hn => by obtain rfl := List.mem_singleton.1 hn; exact ⟨by omega, by omega⟩) (by show 0 + 5 + 22 * 1 + 1 ≤ 140737488355328; omega)
  have HW := Lib.hid (show WordsOk W1.drew from HE.out.words)
  have HS := Lib.hid (show W1.drew.cell? ⟨w.heap.size, 0, none⟩ = some (.int .i64 3) ∧ W1.drew.cell? ⟨w.heap.size, 4, none⟩ = some (.int .i64 I.size) ∧ W1.drew.cell? ⟨w.heap.size, 5, none⟩ = some (.slice A0 I.sets.length C0) from ⟨x0, x4, x5⟩)
  have HX := Lib.hid (show ∀ t W, Pg b t W1 W → W.cell? ⟨w.heap.size, 0, none⟩ = some (.int .i64 3) ∧ W.cell? ⟨w.heap.size, 4, none⟩ = some (.int .i64 I.size) ∧ W.cell? ⟨w.heap.size, 5, none⟩ = some (.slice A0 I.sets.length C0) from fun t W hW => by
    have hM3 := hW.blk HM.out (by omega) (by decide)
    refine ⟨?_, ?_, ?_⟩ <;> (unfold World.cell?; simp only [hM3]; rfl))
  have HT := Lib.hid (HX.out _ _ P2)
  have HW2 := Lib.hid (P2.words HE.out.words HE.out.gw)
  have HP2 := Lib.hid P2
  have hlt1 : w.heap.size < W1.heap.size := lt_of_block HM.out
  clear x0 x4 x5 N2 P2 P1
  go_enter Tryz.func50, Tryz.ntmps50
  go_wp2_with fail
  rw [← hW1]
  clear hW1
  go_region_held3 (fun w' => w'.cell? ⟨w.heap.size, 0, none⟩ = some (.int .i64 3) ∧ w'.cell? ⟨w.heap.size, 4, none⟩ = some (.int .i64 I.size) ∧ w'.cell? ⟨w.heap.size, 5, none⟩ = some (.slice A0 I.sets.length C0))
    (first | exact HS.out | exact HT.out | exact HV.out)
    (first
      | (go_at_call 42; (first | (with_reducible refine (NM _ HW.out).mono ?_) | (with_reducible refine (NM _ HW2.out).mono ?_)); rintro e w3 ⟨rfl, hw3⟩; obtain rfl := hw3.symm)
      | (go_at_call 71; (with_reducible refine L1.mono ?_); rintro e w4 ⟨rfl, p4⟩; have HV := Lib.hid (HX.out _ _ (HP2.out.trans p4))))
  all_goals
    have HP5 := Lib.hid (HP2.out.trans p4)
    have v5 := HV.out.2.2
    clear p4 L1 HS HT HX
    go_wp2
    go_loopw [17] (fun i wr => ∃ (k : Nat) (acc : List UInt8), k ≤ I.sets.length ∧ i = .int .i64 (k : Nat) ∧ Hid (acc ++ setsT (I.sets.drop k) = cW ++ (numT I.size ++ (10 :: setsT I.sets))) ∧ Hid (Pg b acc W1 wr)) (fun i _ => I.sets.length - (intOf i).toNat)
    case atStart => exact ⟨0, _, by omega, rfl, by show _ = _; simp [numsT, cW], HP5⟩
    case round =>
      obtain ⟨k, acc, hk, rfl, hQ, hP⟩ := hrel
      by_cases hlt : k < I.sets.length
      · obtain ⟨g, off, x, A', C', rfl, _, hgl, hx, d0, d1, _, hC', hM', hI⟩ := (HE.out.sets.held hP.out.below hP.out.below).get hlt
        have hq := hQ.out
        rw [setsT_drop hx] at hq
        obtain ⟨hx1, hx2⟩ := HSM.out x (List.mem_of_getElem? hx)
        have hx3 := HEL.out x (List.mem_of_getElem? hx)
        have hx4 : ∀ n ∈ x.2, I64 n := fun n hn => by have h2 := ris_in _ _ hx2 n hn; exact ⟨by omega, by omega⟩
        have hl1 := numsT_len x.2 hx4
        have hl2 := numT_len (n := x.1) ⟨by omega, by omega⟩
        have hll := congrArg List.length hq
        simp only [List.length_append, List.length_cons] at hll
        have hw3 : setW.length = 3 := rfl
        have hw4 : cW.length = 5 := rfl
        have c01 : (0 : Int) ≤ (k : Int) := by omega
        have c02 : (k : Int) < (I.sets.length : Int) := by omega
        have hbx := hP.out.lt
        obtain ⟨W6, hW6⟩ : ∃ W, W = wr.alloc (.cells #[.int .i64 x.1, .slice A' x.2.length C'] 71) := ⟨_, rfl⟩
        have nb6 := new_below wr (.cells #[.int .i64 x.1, .slice A' x.2.length C'] 71)
        have hn6 := heap_alloc_new wr (.cells #[.int .i64 x.1, .slice A' x.2.length C'] 71)
        rw [← hW6] at nb6 hn6
        have P6 := hP.out.next nb6
        have IO := isOver_any b acc W1 W6 P6
        by_cases hov : 1048576 < acc.length
        · rw [decide_eq_true hov] at IO
          have HF := Lib.hid (show ∃ t, Pg b t w0 W6 ∧ (t = cW ++ (numT I.size ++ (10 :: setsT I.sets)) ∨ (1048576 < t.length ∧ 1048576 < (cW ++ (numT I.size ++ (10 :: setsT I.sets))).length)) from ⟨acc, HP01.out.trans P6, .inr ⟨hov, by (try simp only [List.length_append, List.length_cons]) <;> omega⟩⟩)
          clear hQ hq hP hx hx1 hx2 hx3 hx4 hll hI P6 nb6 hn6 LN NM
          go_wp2_with fail
          rw [← hW6]
          clear hW6
          with_reducible refine IO.mono ?_
          rintro e w7 ⟨rfl, hw7⟩
          obtain rfl := hw7.symm
          clear IO
          go_wp2
          refine bodyPost_ret (results_none rfl _ _ _) rfl ?_
          exact ⟨rfl, HF.out⟩
        · rw [decide_eq_false hov] at IO
          obtain ⟨ST, hST⟩ : ∃ q, (⟨(Lib.itoa x.1).toArray⟩ : ByteArray) = q := ⟨_, rfl⟩
          have hSL : ST.data.toList = Lib.itoa x.1 := by rw [← hST]
          have hSS : ST.size ≤ 21 := by
            have h1 := str_len ST
            rw [hSL] at h1
            have h2 : (numT x.1).length = (Lib.itoa x.1).length + 1 := rfl
            omega
          have FT := fun W hW => format_any x.1 ⟨by omega, by omega⟩ W hW
          rw [hST] at FT
          have HQ : Hid ((acc ++ ((setW ++ (numT x.1 ++ [58])) ++ (numsT x.2 ++ [10]))) ++ setsT (I.sets.drop (k + 1)) = cW ++ (numT I.size ++ (10 :: setsT I.sets))) := by
            show _ = _
            rw [← hq]
            simp
          clear hQ hq
          go_wp2_with fail
          rw [← hW6]
          clear hW6
          with_reducible refine IO.mono ?_
          rintro e w7 ⟨rfl, hw7⟩
          obtain rfl := hw7.symm
          go_wp2_with fail
          have hTs := hP.out.tab HE.out.tab HE.out.gt
          have H0 := Lib.hid (((Pg.refl hP.out.page).next nb6).next (Below.refl _ _).drew)
          have HC := Lib.hid (show W6.drew.heap[wr.heap.size]? = some (.cells #[.int .i64 x.1, .slice A' x.2.length C'] 71 (0, 0)) from hn6)
          have hcl : ∀ W : World, W.heap[wr.heap.size]? = some (.cells #[.int .i64 x.1, .slice A' x.2.length C'] 71 (0, 0)) → W.cell? ⟨wr.heap.size, 0, none⟩ = some (.int .i64 x.1) ∧ W.cell? ⟨wr.heap.size, 1, none⟩ = some (.slice A' x.2.length C') := fun W hW => by
            constructor <;> (unfold World.cell?; simp only [hW]; rfl)
          have n1 : ¬ (9223372036854775807 < 4 + ST.size) := by omega
          have n2 : ¬ (9223372036854775807 < 4 + ST.size + 1) := by omega
          have hTL : ((⟨#[115, 101, 116, 32]⟩ : ByteArray) ++ ST ++ ⟨#[58]⟩).data.toList = setW ++ (numT x.1 ++ [58]) := by
            rw [ByteArray.data_append, ByteArray.data_append]
            simp [hSL, numT, setW]
          have hTS : ((⟨#[115, 101, 116, 32]⟩ : ByteArray) ++ ST ++ ⟨#[58]⟩).size ≤ 30 := by
            rw [← str_len, hTL]
            simp only [List.length_append, List.length_cons, List.length_nil]
            omega
          have HI := Lib.hid hI
          have HPk := hP
          have hsz6 : wr.heap.size < W6.heap.size := lt_of_block hn6
          have HX4 := Lib.hid hx4
          have hlx : ∀ h : ByteArray, h.size ≤ 30 → acc.length + h.size + 22 * x.2.length + 1 ≤ 140737488355328 := fun h hh => by omega
          clear IO hP nb6 hn6 P6 hx hx2 hx4 hI hll
          go_region_held3 (fun w' => w'.cell? ⟨wr.heap.size, 0, none⟩ = some (.int .i64 x.1) ∧ w'.cell? ⟨wr.heap.size, 1, none⟩ = some (.slice A' x.2.length C'))
            (exact hcl _ HC.out)
            (first
              | (go_at_call 72; (with_reducible refine (FT _ (H0.out.tab hTs HE.out.gt)).mono ?_); rintro e w8 ⟨rfl, b8⟩; have HC := Lib.hid ((b8.block _ (lt_of_block HC.out)).trans HC.out); have H0 := Lib.hid (H0.out.next b8))
              | (go_at_call 73; have hbM := H0.out.lt; (with_reducible refine (wide_any _ _ _ _ (HI.out.held H0.out.below) hx3).mono ?_); rintro e w9 ⟨rfl, hd9, b9⟩; have HD := Lib.hid hd9; have HC := Lib.hid ((b9.block _ (lt_of_block HC.out)).trans HC.out); have H0 := Lib.hid (H0.out.next b9))
              | (go_at_call 71; (with_reducible refine (LN acc _ _ x.2 _ H0.out.page (H0.out.tab hTs HE.out.gt) (ints_wide b _ x.2 _ HD.out hx3 hbM) HX4.out (hlx _ hTS)).mono ?_); rintro e w10 ⟨rfl, p10⟩; have HC := Lib.hid (p10.blk HC.out (by omega) (by decide)); have H0 := Lib.hid (H0.out.trans p10)))
          rw [hTL] at H0
          have HP7 := Lib.hid (HPk.out.trans H0.out)
          have HQ7 := HQ
          clear H0 HC HD HI FT n1 n2 hcl
          go_wp2
          go_roundw
          case rel => exact ⟨k + 1, _, by omega, by go_num, HQ7, HP7⟩
          case measure => simp [intOf]; omega
      · obtain rfl : k = I.sets.length := by omega
        have hq := hQ.out
        rw [List.drop_eq_nil_of_le (Nat.le_refl _)] at hq
        simp only [setsT, List.append_nil] at hq
        have hP1 := hP.out
        rw [hq] at hP1
        have HF := Lib.hid (HP01.out.trans hP1)
        clear hQ hq hP hP1
        go_wp2
        go_end0
        exact ⟨rfl, _, HF.out, .inl rfl⟩
end Go.Proofs.YtbadingdklenhaaGreatDoor
