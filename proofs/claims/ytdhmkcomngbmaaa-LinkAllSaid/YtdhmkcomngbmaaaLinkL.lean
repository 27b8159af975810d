/- A line, plain: acts on it, and what stays true: each packet under way is one that an end made, or is turned. No program in sight. -/
import Derived.Test.YtdhmkcomngbmaaaLinkN
namespace Go.Proofs.Ytdhmkcomngbmaaa

/-- A packet under way. -/
structure Pk where
  to_ : Nat
  s : List UInt8
  bad : Bool
structure Line where
  st : Nat → Site
  net : List Pk
def setS (f : Nat → Site) (i : Nat) (S : Site) : Nat → Site := fun k => if k = i then S else f k
theorem setS_same (f : Nat → Site) (i : Nat) : setS f i (f i) = f := by
  funext k; unfold setS; split
  · rename_i h; rw [h]
  · rfl
theorem setS_at (f : Nat → Site) (i : Nat) (S : Site) : setS f i S i = S := if_pos rfl
theorem setS_far (f : Nat → Site) {i k : Nat} (S : Site) (h : k ≠ i) : setS f i S k = f k := if_neg h
def Line.send (l : Line) (p : Pk) : Line := if p.s ≠ [] ∧ l.net.length < 200 then ⟨l.st, l.net ++ [p]⟩ else l
def Line.gone (l : Line) (k : Nat) : Line := ⟨l.st, l.net.take k ++ l.net.drop (k + 1)⟩
noncomputable def Line.comes (l : Line) (p : Pk) : Line := Line.send ⟨setS l.st p.to_ ((l.st p.to_).took p.s), l.net⟩ ⟨1 - p.to_, (takeX (l.st p.to_).x p.s).2.reply, false⟩
def Line.puts (l : Line) (who : Nat) (piece : List UInt8) : Line :=
  if putE15 (l.st who).x piece = 0 then Line.send ⟨setS l.st who ⟨putX (l.st who).x piece, (l.st who).put ++ [piece], (l.st who).came⟩, l.net⟩ ⟨1 - who, putS (l.st who).x piece, false⟩ else l
def Line.sends (l : Line) (who : Nat) (ps : List (List UInt8)) : Line := ps.foldl (fun l s => l.send ⟨1 - who, s, false⟩) l
def Line.tick (l : Line) (who : Nat) : Line := l.sends who (tickL (l.st who).x)
def turnS (s : List UInt8) (j : Nat) : List UInt8 := s.set j ((s.getD j 0) ^^^ 1)
def Line.turn (l : Line) (k j : Nat) : Line := match l.net[k]? with
  | some p => if p.bad = true then l else ⟨l.st, l.net.set k ⟨p.to_, turnS p.s (j % p.s.length), true⟩⟩
  | none => l

structure PkOk (st : Nat → Site) (p : Pk) : Prop where
  to2 : p.to_ < 2
  ne : p.s ≠ []
  gen : p.bad = false → Gen (st (1 - p.to_)) (1 - p.to_) p.s
  no : p.bad = true → openE p.s ≠ 0
structure LineOk (l : Line) (N : Nat) : Prop where
  a : SiteOk (l.st 0) 0 (l.st 1)
  b : SiteOk (l.st 1) 1 (l.st 0)
  net : ∀ p ∈ l.net, PkOk l.st p
  len : l.net.length ≤ 200
  p0 : (l.st 0).put.length ≤ N
  p1 : (l.st 1).put.length ≤ N
theorem LineOk.at_ {l : Line} {N : Nat} (h : LineOk l N) {i : Nat} (hi : i < 2) : SiteOk (l.st i) i (l.st (1 - i)) := by
  match i, hi with
  | 0, _ => exact h.a
  | 1, _ => exact h.b
theorem LineOk.more {l : Line} {N M : Nat} (h : LineOk l N) (hm : N ≤ M) : LineOk l M := ⟨h.a, h.b, h.net, h.len, Nat.le_trans h.p0 hm, Nat.le_trans h.p1 hm⟩
theorem LineOk.send {l : Line} {N : Nat} (h : LineOk l N) {p : Pk} (hp : p.s ≠ [] → PkOk l.st p) : LineOk (l.send p) N := by
  unfold Line.send
  split
  · rename_i hc
    refine ⟨h.a, h.b, fun q hq => ?_, by show (l.net ++ [p]).length ≤ 200; rw [List.length_append]; simp; omega, h.p0, h.p1⟩
    rcases List.mem_append.1 hq with e | e
    · exact h.net q e
    · rw [List.mem_singleton.1 e]; exact hp hc.1
  · exact h
theorem LineOk.gone {l : Line} {N : Nat} (h : LineOk l N) (k : Nat) : LineOk (l.gone k) N := by
  refine ⟨h.a, h.b, fun q hq => ?_, ?_, h.p0, h.p1⟩
  · rcases List.mem_append.1 hq with e | e
    · exact h.net q (List.mem_of_mem_take e)
    · exact h.net q (List.mem_of_mem_drop e)
  · have := h.len
    show (l.net.take k ++ l.net.drop (k + 1)).length ≤ 200
    rw [List.length_append, List.length_take, List.length_drop]; omega

/-- One site turned, more put there or come: all that is under way stays. -/
theorem net_mono {st : Nat → Site} {i : Nat} {S : Site} {p : Pk} (h : PkOk st p) (hp : ∃ more, S.put = (st i).put ++ more) (hc : (st i).came.length ≤ S.came.length) : PkOk (setS st i S) p := by
  refine ⟨h.to2, h.ne, fun hb => ?_, h.no⟩
  by_cases e : 1 - p.to_ = i
  · rw [e, setS_at]
    have := h.gen hb
    rw [e] at this
    exact this.mono hp hc
  · rw [setS_far _ _ e]; exact h.gen hb
theorem LineOk.set {l : Line} {N M : Nat} (h : LineOk l N) {i : Nat} (hi : i < 2) {S : Site} (h1 : SiteOk S i (l.st (1 - i))) (h2 : SiteOk (l.st (1 - i)) (1 - i) S) (hp : ∃ more, S.put = (l.st i).put ++ more) (hc : (l.st i).came.length ≤ S.came.length) (hM : N ≤ M) (hl : S.put.length ≤ M) : LineOk ⟨setS l.st i S, l.net⟩ M := by
  have hn : ∀ p ∈ l.net, PkOk (setS l.st i S) p := fun p hq => net_mono (h.net p hq) hp hc
  match i, hi with
  | 0, _ => exact ⟨h1, h2, hn, h.len, hl, Nat.le_trans h.p1 hM⟩
  | 1, _ => exact ⟨h2, h1, hn, h.len, Nat.le_trans h.p0 hM, hl⟩

/-- A packet comes. -/
theorem LineOk.comes {l : Line} {N : Nat} (h : LineOk l N) {p : Pk} (hp : PkOk l.st p) : LineOk (l.comes p) N := by
  have hT := h.at_ hp.to2
  have hS := h.at_ (i := 1 - p.to_) (by omega)
  rw [show 1 - (1 - p.to_) = p.to_ from by have := hp.to2; omega] at hS
  unfold Line.comes
  cases hb : p.bad with
  | true =>
    have hno := takeX_no (x := (l.st p.to_).x) (s := p.s) (.inl fun e => hp.no hb e.1)
    have hsame : (l.st p.to_).took p.s = l.st p.to_ := by unfold Site.took; rw [hno]; rfl
    rw [hsame, setS_same, hno]
    exact h.send (fun e => absurd rfl e)
  | false =>
    obtain ⟨g1, g2, g3, g4⟩ := took_gen (i := 1 - p.to_) (j := p.to_) (by have := hp.to2; omega) hS hT (hp.gen hb)
    have hl : ((l.st p.to_).took p.s).put.length ≤ N := by
      show (l.st p.to_).put.length ≤ N
      have := hp.to2
      rcases (show p.to_ = 0 ∨ p.to_ = 1 by omega) with e | e <;> rw [e]
      · exact h.p0
      · exact h.p1
    have h' := h.set hp.to2 g1 g2 ⟨[], by show (l.st p.to_).put = _; simp⟩ g3 (Nat.le_refl _) hl
    refine h'.send (fun hne => ⟨by show 1 - p.to_ < 2; omega, hne, fun _ => ?_, fun e => by cases e⟩)
    show Gen (setS l.st p.to_ _ (1 - (1 - p.to_))) (1 - (1 - p.to_)) _
    rw [show 1 - (1 - p.to_) = p.to_ from by have := hp.to2; omega, setS_at]
    rcases g4 with e | e
    · exact absurd e hne
    · exact e
theorem LineOk.puts {l : Line} {N : Nat} (h : LineOk l N) {who : Nat} (hw : who < 2) (piece : List UInt8) (hN : N < 1000000) : LineOk (l.puts who piece) (N + 1) := by
  unfold Line.puts
  split
  · rename_i he
    have hS := h.at_ hw
    have hT := h.at_ (i := 1 - who) (by omega)
    rw [show 1 - (1 - who) = who from by omega] at hT
    have hl : (l.st who).put.length ≤ N := by
      rcases (show who = 0 ∨ who = 1 by omega) with e | e <;> rw [e]
      · exact h.p0
      · exact h.p1
    obtain ⟨g1, g2, g3⟩ := put_gen hS hT he (by omega)
    have h' := h.set (M := N + 1) hw g1 g2 ⟨[piece], rfl⟩ (Nat.le_refl _) (by omega) (by show ((l.st who).put ++ [piece]).length ≤ N + 1; rw [List.length_append]; simp; omega)
    refine h'.send (fun hne => ⟨by show 1 - who < 2; omega, hne, fun _ => ?_, fun e => by cases e⟩)
    show Gen (setS l.st who _ (1 - (1 - who))) (1 - (1 - who)) _
    rw [show 1 - (1 - who) = who from by omega, setS_at]
    rcases g3 with e | e
    · exact absurd e hne
    · exact e
  · exact h.more (by omega)
theorem tick_gen {S T : Site} {i : Nat} (h : SiteOk S i T) : ∀ s ∈ tickL S.x, Gen S i s := by
  intro s hs
  unfold tickL at hs
  obtain ⟨k, hk, e⟩ := List.mem_mapIdx.1 hs
  rw [← e]
  refine Gen.data h ?_
  rw [List.getElem_take]
  have : k < S.x.out.length := by rw [List.length_take] at hk; omega
  exact List.getElem?_eq_getElem this
theorem send_st (l : Line) (p : Pk) : (l.send p).st = l.st := by unfold Line.send; split <;> rfl
theorem LineOk.sends {N : Nat} {who : Nat} (hw : who < 2) : ∀ (ps : List (List UInt8)) {l : Line}, LineOk l N → (∀ s ∈ ps, Gen (l.st who) who s) → LineOk (l.sends who ps) N
  | [], _, h, _ => h
  | s :: ps, l, h, hg => by
    have h1 : LineOk (l.send ⟨1 - who, s, false⟩) N := h.send (fun hne => ⟨by show 1 - who < 2; omega, hne, fun _ => by
      show Gen (l.st (1 - (1 - who))) (1 - (1 - who)) s
      rw [show 1 - (1 - who) = who from by omega]
      exact hg s (by simp), fun e => by cases e⟩)
    exact LineOk.sends hw ps h1 (fun t ht => by rw [send_st]; exact hg t (by simp [ht]))
theorem LineOk.tick {l : Line} {N : Nat} (h : LineOk l N) {who : Nat} (hw : who < 2) : LineOk (l.tick who) N := LineOk.sends hw _ h (tick_gen (h.at_ hw))
theorem gen_frame {S : Site} {i : Nat} {s : List UInt8} (h : Gen S i s) : ∃ k b, s = frameOf k b := by obtain ⟨kind, ot, num, wa, piece, h1, _⟩ := h; exact ⟨_, _, h1⟩
theorem LineOk.turn {l : Line} {N : Nat} (h : LineOk l N) (k j : Nat) : LineOk (l.turn k j) N := by
  unfold Line.turn
  split
  · rename_i p hp
    obtain ⟨hk1, hk2⟩ := List.getElem?_eq_some_iff.1 hp
    have hpo := h.net p (by rw [← hk2]; exact List.getElem_mem hk1)
    split
    · exact h
    · rename_i hb
      have hb' : p.bad = false := by simpa using hb
      refine ⟨h.a, h.b, fun q hq => ?_, by show (l.net.set k _).length ≤ 200; rw [List.length_set]; exact h.len, h.p0, h.p1⟩
      rcases List.mem_or_eq_of_mem_set hq with e | e
      · exact h.net q e
      · rw [e]
        obtain ⟨kk, bb, hf⟩ := gen_frame (hpo.gen hb')
        have hlen : 0 < p.s.length := List.length_pos_iff.2 hpo.ne
        have hj : j % p.s.length < p.s.length := Nat.mod_lt _ hlen
        refine ⟨hpo.to2, fun e => ?_, fun e => (by cases e), fun _ => ?_⟩
        · have := congrArg List.length e
          unfold turnS at this
          rw [List.length_set] at this
          simp at this
          exact hpo.ne this
        · show openE (turnS p.s (j % p.s.length)) ≠ 0
          have hflip : ∀ (t : List UInt8) (q : Nat), t = frameOf kk bb → q < t.length → openE (turnS t q) ≠ 0 := by
            intro t q ht hq
            subst ht
            unfold turnS
            rw [show (frameOf kk bb).getD q 0 = (frameOf kk bb)[q] from by rw [List.getD_eq_getElem?_getD, List.getElem?_eq_getElem hq]; rfl]
            exact frame_turned hq (by decide)
          exact hflip _ _ hf hj
  · exact h
/-- What has come is a beginning of what was put. -/
theorem LineOk.begins {l : Line} {N : Nat} (h : LineOk l N) : (l.st 0).came = (l.st 1).put.take (l.st 0).came.length ∧ (l.st 1).came = (l.st 0).put.take (l.st 1).came.length := ⟨h.a.pre, h.b.pre⟩
end Go.Proofs.Ytdhmkcomngbmaaa
