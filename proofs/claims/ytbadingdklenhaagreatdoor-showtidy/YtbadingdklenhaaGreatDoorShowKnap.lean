/-
  What a page's knapsack and square write (layer 11).
-/
import Derived.Test.YtbadingdklenhaaGreatDoorShowLine
import Derived.Test.YtbadingdklenhaaGreatDoorInstWalks
namespace Go.Proofs.YtbadingdklenhaaGreatDoor
set_option maxRecDepth 100000
open Go.RowKit

theorem WordsOk.lt {w : World} (h : WordsOk w) : 0 < w.heap.size := cell_lt (h 0 (by omega))
theorem Pg.words {b : Nat} {l : List UInt8} {w w' : World} (h : Pg b l w w') (hW : WordsOk w) (hg : 0 < b) : WordsOk w' := fun i hi => (World.cell?_of_block (a := ⟨0, i, none⟩) (h.be.block _ hg)).trans (hW i hi)
theorem Pg.below {b : Nat} {l : List UInt8} {w w' : World} (h : Pg b l w w') : Held (· < b) w w' := h.held.imp (fun _ hx => .inl hx)
/-- What a page's writing of an instance may lean on. -/
structure Env (b : Nat) (I : In) (vi vc vs : Value) (uc us : List Value) (w0 : World) : Prop where
  mk ::
  tab : TabOk w0
  words : WordsOk w0
  gt : 1 < b
  gw : 0 < b
  items : Its (· < b) w0 vi I.items
  cost : Rws (· < b) (· < b) w0 vc I.cost uc
  sets : Sts (· < b) (· < b) w0 vs I.sets us
  may : May I
theorem Env.pg {b : Nat} {I : In} {vi vc vs : Value} {uc us : List Value} {l : List UInt8} {w0 w : World} (h : Env b I vi vc vs uc us w0) (p : Pg b l w0 w) : Env b I vi vc vs uc us w :=
  ⟨p.tab h.tab h.gt, p.words h.words h.gw, h.gt, h.gw, h.items.held p.below, h.cost.held p.below p.below, h.sets.held p.below p.below, h.may⟩
theorem line_at (b : Nat) (l : List UInt8) (h : ByteArray) (u : Value) (ns : List Int) (w : World) (hp : Page b b (Lib.byteCells l) w) (hT : TabOk w) (hg : 1 < b) (hN : Ints (Kp b w) w u ns) (h64 : ∀ n ∈ ns, I64 n) (hlen : l.length + h.size + 22 * ns.length + 1 ≤ 140737488355328) :
    Calls Tryz.prog 71 #[.pointer (some ⟨b, 0, none⟩), .string h, u] w fun e w' => e = .returned (.tuple #[]) ∧ Pg b (l ++ (h.data.toList ++ (numsT ns ++ [10]))) w w' :=
  line_any b l h u ns w w (Pg.refl hp) hT hg hN h64 hlen
/-- A block of its own that is no row of bytes. -/
theorem Pg.blk {b M : Nat} {l : List UInt8} {w w' : World} {cs : Array Value} {T : TypeId} (h : Pg b l w w') (hM : w.heap[M]? = some (.cells cs T (0, 0))) (hne : M ≠ b) (hT : T ≠ 5) : w'.heap[M]? = some (.cells cs T (0, 0)) :=
  h.oth _ _ hM (fun e => hne (by injection e)) (fun c fz e => by injection e with _ e2 _; exact hT e2)
/-- A row of numbers that has just been built. -/
theorem ints_new (b : Nat) (w : World) (l : List Int) (hl : l.length ≤ 1000) (cs : Array Value) (hcs : cs.toList = nl l) (hb : b < w.heap.size) : Ints (Kp b (w.alloc (.cells cs 2))) (w.alloc (.cells cs 2)) (.slice (some ⟨w.heap.size, 0, none⟩) l.length l.length) l := by
  have hn := heap_alloc_new w (.cells cs 2)
  refine ⟨_, _, rfl, Nat.le_refl _, by unfold maxLen; omega, fun _ => ⟨w.heap.size, 0, rfl, .inr ⟨by omega, _, hn, fun c fz e => by injection e with _ e2 _; exact absurd e2 (by decide)⟩, by simp, fun j v hj => ?_⟩⟩
  rw [Nat.zero_add, cell_of_row _ w.heap.size j cs _ _ hn, ← Array.getElem?_toList, hcs]
  exact hj
theorem itemsT_drop {l : List (Int × Int)} {k : Nat} {x : Int × Int} (h : l[k]? = some x) : itemsT (l.drop k) = itemW ++ (numT x.1 ++ (numT x.2 ++ (10 :: itemsT (l.drop (k + 1))))) := by
  obtain ⟨hk, hx⟩ := List.getElem?_eq_some_iff.1 h
  rw [List.drop_eq_getElem_cons hk, hx]
  rfl
theorem rowsT_drop {l : List (List Int)} {k : Nat} {x : List Int} (h : l[k]? = some x) : rowsT (l.drop k) = rowW ++ (numsT x ++ (10 :: rowsT (l.drop (k + 1)))) := by
  obtain ⟨hk, hx⟩ := List.getElem?_eq_some_iff.1 h
  rw [List.drop_eq_getElem_cons hk, hx]
  rfl

set_option maxHeartbeats 2000000 in
theorem knapsack_page (b : Nat) (I : In) (vi vc vs : Value) (uc us : List Value) (w0 w : World) (hk : I.kind = 0) (hP : Pg b [] w0 w) (hE : Env b I vi vc vs uc us w0) :
    Calls Tryz.prog 48 #[.pointer (some ⟨b, 0, none⟩), inV I vi vc vs] w fun e w' => e = .returned (.tuple #[]) ∧ Pg b (instT I) w0 w' := by
  obtain ⟨A0, C0, rfl, k0, m0⟩ := hE.items.form
  unfold maxLen at m0
  have ei : instT I = kW ++ (10 :: (capW ++ (numT I.cap ++ (10 :: itemsT I.items)))) := by unfold instT; rw [if_pos hk]
  rw [ei]
  have NM := fun W hW => name_any 0 W hW
  rw [show name 0 = ⟨#[107, 110, 97, 112, 115, 97, 99, 107]⟩ from rfl] at NM
  have LN := fun l h u ns W hP hT hN h64 hlen => line_at b l h u ns W hP hT hE.gt hN h64 hlen
  have hcap := hE.may.cap
  have hil := hE.may.ilen
  have him := hE.may.items
  have hiT := itemsT_len I.items (fun p hp => by have := him p hp; exact ⟨⟨by omega, by omega⟩, ⟨by omega, by omega⟩⟩)
  have hct := numT_len (n := I.cap) ⟨by omega, by omega⟩
  have HIM := Lib.hid him
  unfold inV
  rw [hk]
  obtain ⟨W1, hW1⟩ : ∃ W, W = w.alloc (.cells #[.int .i64 0, .int .i64 I.cap, .slice A0 I.items.length C0, vc, .int .i64 I.size, vs] 33) := ⟨_, rfl⟩
  have hb := hP.lt
  have nb := new_below w (.cells #[.int .i64 0, .int .i64 I.cap, .slice A0 I.items.length C0, vc, .int .i64 I.size, vs] 33)
  rw [← hW1] at nb
  have P01 := hP.next nb
  have HE := Lib.hid (hE.pg P01)
  have P1 := Pg.refl P01.page
  have hM : W1.heap[w.heap.size]? = some (.cells #[.int .i64 0, .int .i64 I.cap, .slice A0 I.items.length C0, vc, .int .i64 I.size, vs] 33 (0, 0)) := by rw [hW1]; exact heap_alloc_new _ _
  have HM := Lib.hid hM
  have HP01 := Lib.hid P01
  clear hE nb hP him hM P01
  go_enter Tryz.func48, Tryz.ntmps48
  go_wp2_with fail
  rw [← hW1]
  clear hW1
  with_reducible refine (NM _ HE.out.words).mono ?_
  rintro e w2 ⟨rfl, b2⟩
  have P2 := P1.next b2
  go_wp2_with fail
  have L1 := LN [] ⟨#[107, 110, 97, 112, 115, 97, 99, 107]⟩ (.slice none 0 0) [] _ P2.page (P2.tab HE.out.tab HE.out.gt) (Lies.nil _ _ _) (fun n hn => absurd hn List.not_mem_nil) (by decide)
  with_reducible refine L1.mono ?_
  rintro e w3 ⟨rfl, p3⟩
  have P3 := P2.trans p3
  have M3 := P3.blk HM.out (by omega) (by decide)
  have c1 : w3.cell? ⟨w.heap.size, 1, none⟩ = some (.int .i64 I.cap) := by unfold World.cell?; simp only [M3]; rfl
  have hs3 := P3.lt
  have P4 := P3.next (new_below w3 (.cells #[.int .i64 I.cap] 2))
  have N4 := ints_new b w3 [I.cap] (by simp) #[.int .i64 I.cap] rfl hs3
  clear P1 P2 p3 P3 M3 NM b2
  have L2 := LN _ ⟨#[99, 97, 112, 97, 99, 105, 116, 121]⟩ (.slice (some ⟨w3.heap.size, 0, none⟩) 1 1) [I.cap] _ P4.page (P4.tab HE.out.tab HE.out.gt) N4 (fun n hn => by obtain rfl := List.mem_singleton.1 hn; exact ⟨by omega, by omega⟩) (by show 9 + 8 + 22 * 1 + 1 ≤ 140737488355328; omega)
  go_wp2_with fail
  with_reducible refine L2.mono ?_
  rintro e w5 ⟨rfl, p5⟩
  have P5 := P4.trans p5
  have M5 := P5.blk HM.out (by omega) (by decide)
  have c2 : w5.cell? ⟨w.heap.size, 2, none⟩ = some (.slice A0 I.items.length C0) := by unfold World.cell?; simp only [M5]; rfl
  have HP5 := Lib.hid P5
  clear P4 p5 P5 M5 N4 c1 L1 L2
  go_wp2
  go_loopw [19] (fun i wr => ∃ (k : Nat) (acc : List UInt8), k ≤ I.items.length ∧ i = .int .i64 (k : Nat) ∧ Hid (acc ++ itemsT (I.items.drop k) = kW ++ (10 :: (capW ++ (numT I.cap ++ (10 :: itemsT I.items))))) ∧ Hid (Pg b acc W1 wr)) (fun i _ => I.items.length - (intOf i).toNat)
  case atStart => exact ⟨0, _, by omega, rfl, by show _ = _; simp [kW, capW, numsT], HP5⟩
  case round =>
    obtain ⟨k, acc, hk, rfl, hQ, hP⟩ := hrel
    by_cases hlt : k < I.items.length
    · obtain ⟨g, off, x, rfl, _, hgl, hx, d0, d1⟩ := (HE.out.items.held hP.out.below).get hlt
      have hq := hQ.out
      rw [itemsT_drop hx] at hq
      have hxm := HIM.out x (List.mem_of_getElem? hx)
      have hl1 := numT_len (n := x.1) ⟨by omega, by omega⟩
      have hl2 := numT_len (n := x.2) ⟨by omega, by omega⟩
      have hll := congrArg List.length hq
      simp only [List.length_append, List.length_cons] at hll
      have hw1 : kW.length = 8 := rfl
      have hw2 : capW.length = 8 := rfl
      have hw3 : itemW.length = 4 := rfl
      have c01 : (0 : Int) ≤ (k : Int) := by omega
      have c02 : (k : Int) < (I.items.length : Int) := by omega
      have hgl2 := hP.out.lt
      have P6 := (hP.out.next (new_below wr (.cells #[.int .i64 x.1, .int .i64 x.2] 70))).next (new_below _ (.cells #[.int .i64 x.1, .int .i64 x.2] 2))
      have N6 := ints_new b (wr.alloc (.cells #[.int .i64 x.1, .int .i64 x.2] 70)) [x.1, x.2] (by simp) #[.int .i64 x.1, .int .i64 x.2] rfl (by simp; omega)
      have L3 := LN acc ⟨#[105, 116, 101, 109]⟩ (.slice (some ⟨wr.heap.size + 1, 0, none⟩) 2 2) [x.1, x.2] _ P6.page (P6.tab HE.out.tab HE.out.gt) (by rw [World.size_alloc] at N6; exact N6) (fun n hn => by
        rcases List.mem_cons.1 hn with rfl | hn
        · exact ⟨by omega, by omega⟩
        · obtain rfl := List.mem_singleton.1 hn; exact ⟨by omega, by omega⟩) (by show acc.length + 4 + 22 * 2 + 1 ≤ 140737488355328; omega)
      have HQ : Hid ((acc ++ ([105, 116, 101, 109] ++ (numsT [x.1, x.2] ++ [10]))) ++ itemsT (I.items.drop (k + 1)) = kW ++ (10 :: (capW ++ (numT I.cap ++ (10 :: itemsT I.items))))) := by
        show _ = _
        rw [← hq]
        simp [numsT, itemW]
      have HP6 := Lib.hid P6
      clear hQ hq hP hx hxm hll N6 P6 LN
      go_wp2_with fail
      with_reducible refine L3.mono ?_
      rintro e w7 ⟨rfl, p7⟩
      have HP7 := Lib.hid (HP6.out.trans p7)
      clear HP6 p7 L3
      go_wp2
      go_roundw
      case rel => exact ⟨k + 1, _, by omega, by go_num, HQ, HP7⟩
      case measure => simp [intOf]; omega
    · obtain rfl : k = I.items.length := by omega
      have hq := hQ.out
      rw [List.drop_eq_nil_of_le (Nat.le_refl _)] at hq
      simp only [itemsT, List.append_nil] at hq
      have hP1 := hP.out
      rw [hq] at hP1
      have HF := Lib.hid (HP01.out.trans hP1)
      clear hQ hq hP hP1
      go_wp2
      go_end0
      exact ⟨rfl, HF.out⟩

theorem name_eq (k : Int) (w : World) (hW : WordsOk w) : Calls Tryz.prog 42 #[.int .i64 k] w fun e w' => e = .returned (.string (name k)) ∧ w' = w := by
  by_cases h1 : k < 0
  · rw [show name k = ⟨#[]⟩ from if_pos (.inl h1)]
    go_enter Tryz.func42, Tryz.ntmps42
    go_wp2
    go_ret
    exact ⟨rfl, rfl⟩
  · by_cases h2 : 3 < k
    · rw [show name k = ⟨#[]⟩ from if_pos (.inr h2)]
      have h3 : ¬ k < 4 := by omega
      go_enter Tryz.func42, Tryz.ntmps42
      go_wp2
      go_ret
      exact ⟨rfl, rfl⟩
    · obtain ⟨n, rfl⟩ : ∃ n : Nat, k = (n : Int) := ⟨k.toNat, by omega⟩
      have hn : n < 4 := by omega
      have hc := hW n hn
      rw [show name (n : Int) = word n from (if_neg (by omega)).trans (by simp)]
      generalize word n = s at hc
      have c1 : (0 : Int) ≤ (n : Int) := by omega
      have c2 : (n : Int) < 4 := by omega
      have c3 : ¬ (4 : Int) ≤ (n : Int) := by omega
      have c4 : ¬ (n : Int) < 0 := by omega
      clear h1 h2 hW
      go_enter Tryz.func42, Tryz.ntmps42
      go_wp2
      go_ret
      exact ⟨rfl, rfl⟩
set_option maxHeartbeats 2000000 in
theorem square_page (b : Nat) (I : In) (vi vc vs : Value) (uc us : List Value) (w0 w : World) (hk : I.kind = 1 ∨ I.kind = 2) (hP : Pg b [] w0 w) (hE : Env b I vi vc vs uc us w0) :
    Calls Tryz.prog 49 #[.pointer (some ⟨b, 0, none⟩), inV I vi vc vs] w fun e w' => e = .returned (.tuple #[]) ∧ Pg b (instT I) w0 w' := by
  obtain ⟨A0, C0, rfl, k0, m0⟩ := hE.cost.form
  unfold maxLen at m0
  have hclen := hE.may.clen
  have hcm := hE.may.cost
  have hrT := rowsT_len (m := 64) I.cost (fun r hr => ⟨by have := (hcm r hr).1; omega, fun n hn => by have := (hcm r hr).2 n hn; exact ⟨by omega, by omega⟩⟩)
  have hct := numT_len (n := (I.cost.length : Int)) ⟨by omega, by omega⟩
  obtain ⟨W, hWW, hWL, ei⟩ : ∃ W : ByteArray, name I.kind = W ∧ W.data.toList.length ≤ 10 ∧ instT I = W.data.toList ++ (numT I.cost.length ++ (10 :: rowsT I.cost)) := by
    unfold instT
    rcases hk with hk | hk
    · rw [hk]; exact ⟨_, rfl, by decide, rfl⟩
    · rw [hk]; exact ⟨_, rfl, by decide, rfl⟩
  rw [ei]
  have NM := fun U hU => name_eq I.kind U hU
  rw [hWW] at NM
  have hWs := str_len W
  have LN := fun l h u ns W hP hT hN h64 hlen => line_at b l h u ns W hP hT hE.gt hN h64 hlen
  have HCM := Lib.hid hcm
  unfold inV
  obtain ⟨W1, hW1⟩ : ∃ W, W = w.alloc (.cells #[.int .i64 I.kind, .int .i64 I.cap, vi, .slice A0 I.cost.length C0, .int .i64 I.size, vs] 33) := ⟨_, rfl⟩
  have hb := hP.lt
  have nb := new_below w (.cells #[.int .i64 I.kind, .int .i64 I.cap, vi, .slice A0 I.cost.length C0, .int .i64 I.size, vs] 33)
  rw [← hW1] at nb
  have P01 := hP.next nb
  have HE := Lib.hid (hE.pg P01)
  have P1 := Pg.refl P01.page
  have hM : W1.heap[w.heap.size]? = some (.cells #[.int .i64 I.kind, .int .i64 I.cap, vi, .slice A0 I.cost.length C0, .int .i64 I.size, vs] 33 (0, 0)) := by rw [hW1]; exact heap_alloc_new _ _
  have HM := Lib.hid hM
  have HP01 := Lib.hid P01
  have hkr : I.cost.length ≤ 9223372036854775807 := by omega
  clear hE nb hP hM P01 hk hcm ei
  go_enter Tryz.func49, Tryz.ntmps49
  go_wp2_with fail
  rw [← hW1]
  clear hW1
  have hs1 := HP01.out.lt
  have x0 : W1.cell? ⟨w.heap.size, 0, none⟩ = some (.int .i64 I.kind) := by unfold World.cell?; simp only [HM.out]; rfl
  have x3 : W1.cell? ⟨w.heap.size, 3, none⟩ = some (.slice A0 I.cost.length C0) := by unfold World.cell?; simp only [HM.out]; rfl
  have P2 := P1.next ((new_below W1 (.cells #[.int .i64 I.cost.length] 2)).drew)
  have N2 := ints_new b W1 [(I.cost.length : Int)] (by simp) #[.int .i64 I.cost.length] rfl hs1
  have L1 := LN [] W (.slice (some ⟨W1.heap.size, 0, none⟩) 1 1) [(I.cost.length : Int)] (W1.alloc (.cells #[.int .i64 I.cost.length] 2)).drew P2.page (P2.tab HE.out.tab HE.out.gt) (N2.next (Below.refl _ _).drew) (fun n hn => by obtain rfl := List.mem_singleton.1 hn; exact ⟨by omega, by omega⟩) (by show 0 + W.size + 22 * 1 + 1 ≤ 140737488355328; omega)
  have HW := Lib.hid (show WordsOk W1.drew from HE.out.words)
  have HS := Lib.hid (show W1.drew.cell? ⟨w.heap.size, 0, none⟩ = some (.int .i64 I.kind) ∧ W1.drew.cell? ⟨w.heap.size, 3, none⟩ = some (.slice A0 I.cost.length C0) from ⟨x0, x3⟩)
  have hM2 := P2.blk HM.out (by omega) (by decide)
  have y0 : (W1.alloc (.cells #[.int .i64 I.cost.length] 2)).drew.cell? ⟨w.heap.size, 0, none⟩ = some (.int .i64 I.kind) := by unfold World.cell?; simp only [hM2]; rfl
  have y3 : (W1.alloc (.cells #[.int .i64 I.cost.length] 2)).drew.cell? ⟨w.heap.size, 3, none⟩ = some (.slice A0 I.cost.length C0) := by unfold World.cell?; simp only [hM2]; rfl
  have HT := Lib.hid (And.intro y0 y3)
  have HW2 := Lib.hid (P2.words HE.out.words HE.out.gw)
  have HP2 := Lib.hid P2
  have hlt1 : w.heap.size < W1.heap.size := lt_of_block HM.out
  have HX := Lib.hid (show ∀ t W, Pg b t (W1.alloc (.cells #[.int .i64 I.cost.length] 2)).drew W → W.cell? ⟨w.heap.size, 0, none⟩ = some (.int .i64 I.kind) ∧ W.cell? ⟨w.heap.size, 3, none⟩ = some (.slice A0 I.cost.length C0) from fun t W hW => by
    have hM3 := hW.blk hM2 (by omega) (by decide)
    constructor <;> (unfold World.cell?; simp only [hM3]; rfl))
  clear x0 x3 y0 y3 hM2 N2 P2 P1
  go_region_held3 (fun w' => w'.cell? ⟨w.heap.size, 0, none⟩ = some (.int .i64 I.kind) ∧ w'.cell? ⟨w.heap.size, 3, none⟩ = some (.slice A0 I.cost.length C0))
    (first | exact HS.out | exact HT.out | exact HV.out)
    (first
      | (go_at_call 42; (first | (with_reducible refine (NM _ HW.out).mono ?_) | (with_reducible refine (NM _ HW2.out).mono ?_)); rintro e w3 ⟨rfl, hw3⟩; obtain rfl := hw3.symm)
      | (go_at_call 71; (with_reducible refine L1.mono ?_); rintro e w4 ⟨rfl, p4⟩; have HV := Lib.hid (HX.out _ _ p4)))
  all_goals
    have HP5 := Lib.hid (HP2.out.trans p4)
    have v3 := HV.out.2
    clear p4 L1 HS HT HX
    go_wp2
    go_loopw [18] (fun i wr => ∃ (k : Nat) (acc : List UInt8), k ≤ I.cost.length ∧ i = .int .i64 (k : Nat) ∧ Hid (acc ++ rowsT (I.cost.drop k) = W.data.toList ++ (numT I.cost.length ++ (10 :: rowsT I.cost))) ∧ Hid (Pg b acc W1 wr)) (fun i _ => I.cost.length - (intOf i).toNat)
    case atStart => exact ⟨0, _, by omega, rfl, by show _ = _; simp [numsT], HP5⟩
    case round =>
      obtain ⟨k, acc, hk, rfl, hQ, hP⟩ := hrel
      by_cases hlt : k < I.cost.length
      · obtain ⟨g, off, r, A', C', rfl, _, hgl, hx, d0, _, hC', hM', hI⟩ := (HE.out.cost.held hP.out.below hP.out.below).get hlt
        have hq := hQ.out
        rw [rowsT_drop hx] at hq
        obtain ⟨hrl, hrm⟩ := HCM.out r (List.mem_of_getElem? hx)
        have hl1 := numsT_len r (fun n hn => by have := hrm n hn; exact ⟨by omega, by omega⟩)
        have hll := congrArg List.length hq
        simp only [List.length_append, List.length_cons] at hll
        have hw3 : rowW.length = 3 := rfl
        have c01 : (0 : Int) ≤ (k : Int) := by omega
        have c02 : (k : Int) < (I.cost.length : Int) := by omega
        have L3 := LN acc ⟨#[114, 111, 119]⟩ (.slice A' r.length C') r wr hP.out.page (hP.out.tab HE.out.tab HE.out.gt) (Lies.imp hI (fun q hq => .inl hq)) (fun n hn => by have := hrm n hn; exact ⟨by omega, by omega⟩) (by show acc.length + 3 + 22 * r.length + 1 ≤ 140737488355328; omega)
        have HQ : Hid ((acc ++ ([114, 111, 119] ++ (numsT r ++ [10]))) ++ rowsT (I.cost.drop (k + 1)) = W.data.toList ++ (numT I.cost.length ++ (10 :: rowsT I.cost))) := by
          show _ = _
          rw [← hq]
          simp [rowW]
        have HP6 := hP
        clear hQ hq hP hx hrm hll hI hrl hC'
        go_wp2_with fail
        with_reducible refine L3.mono ?_
        rintro e w7 ⟨rfl, p7⟩
        have HP7 := Lib.hid (HP6.out.trans p7)
        clear HP6 p7 L3
        go_wp2
        go_roundw
        case rel => exact ⟨k + 1, _, by omega, by go_num, HQ, HP7⟩
        case measure => simp [intOf]; omega
      · obtain rfl : k = I.cost.length := by omega
        have hq := hQ.out
        rw [List.drop_eq_nil_of_le (Nat.le_refl _)] at hq
        simp only [rowsT, List.append_nil] at hq
        have hP1 := hP.out
        rw [hq] at hP1
        have HF := Lib.hid (HP01.out.trans hP1)
        clear hQ hq hP hP1
        go_wp2
        go_end0
        exact ⟨rfl, HF.out⟩
end Go.Proofs.YtbadingdklenhaaGreatDoor
