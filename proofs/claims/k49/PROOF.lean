import PyProof.Rows.All
import Wide.All
import OpenK.AllK
import Wide.FinOn
import Lean
import PyProof.EqAt
import PyProof.EqKinds
import PyProof.TupleCall
import PyProof.ZipIter
import PyProof.Rows.ZipGen
import PyProof.DictCompW
import KE.KRevIter
import PyProof.StrCalls2
import PyProof.StrWalks
import PyProof.Rows.StrItems
import PyProof.StrLawsTight
import PyProof.Rows.SetFrom
import PyProof.CollectIter
import PyProof.FactsAll.set
import PyProof.StationsW
import PyProof.ExcClass3
import PyProof.RulesAs
import OpenK.KRaise
import PyProof.ExcBaseAll.ValueError
import OpenK.KOwn
import PyProof.NsDelKeeps
import PyProof.ExcArgsOwn
import PyProof.ExcAttrAll.ValueError
import PyProof.IsiBase
import KE.KIsAll
import PyProof.ExcNew
import PyProof.ExcFactsAll.ValueError
import PyProof.ListRange
import PyProof.ReprRoads
import PyProof.ReprLen
import PyProof.P3In
import PyProof.NeData
import PyProof.Rows.SortWalk
import PyProof.AutoRange
import PyProof.FactsAll.range_2
import PyProof.MeetsSeq
import PyProof.FactsAll.list_3
import PyProof.Rows.Range3
import PyProof.AttrMissHeap
import PyProof.FactsAll.enumerate_0
import PyProof.FactsAll.enumerate_1
import KE.KDictOf
import PyProof.DictRoadsH
import PyProof.MeetsDict
import PyProof.DictCalls
import PyProof.Rows.SortShell
import PyProof.StrBlockI
import PyProof.StrBlock2
import PyProof.DictTruth
import KE.KUnpack
import PyProof.TupleIter
import KE.KTab
import KE.KUnpackStar
import KE.KIntText
import PySem.Challenge.RW_mirrorsums_k49_whole_by_the_desk
namespace L2
open Lean
def zzM(h:Array Syntax)(s:String):Syntax:=(((("~_root_.L2.;*') 3&paren;@'( %[anonymous] 1hygieneInfo 2&hygienicLParen;`1null 2&app 2#refine^ 2group;{2null 2&app 2#refine^ 2group;} '? '_ 2&syntheticHole;^ 1null 1#tacticSeq1Indented 1#tacticSeq;#Lean.Parser.Tactic.;&Lean.Parser.Term.".splitOn ";").foldl (fun s x=>s.replace (x.take 1).toString (x.drop 1).toString) s).splitOn " ").foldl (fun l w=>let x:=(w.drop 1).toString;let n:=w.front.toNat-48;(match n with|0=>if w.front=='%' then mkIdent x.toName else if w.front=='$' then h.getD (x.length-1) .missing else if w.front=='0' then .node .none x.toName #[] else .atom .none x|_=>.node .none x.toName (l.take n).reverse.toArray)::l.drop n) []).headD .missing
end L2
local macro_rules|`(tactic|decide)=>pure (L2.zzM #[] "'( 'decide '+ %kernel 2#posConfigItem 1#configItem 1null 1#optConfig 2#decide^ ') 3#paren")
abbrev z9:=@List.length_map
abbrev zd:=@List.getElem?_eq_getElem
abbrev zh:=@PySem.wpAny_bind
abbrev zi:=@if_neg
abbrev zj:=@List.getD_eq_getElem?_getD
abbrev zn:=@List.mem_cons_self
abbrev zo:=@if_pos
abbrev zr:=@List.mem_cons_of_mem
abbrev zt:=@List.length_append
abbrev zu:=@List.mem_cons
abbrev zx:=@List.getElem?_eq_some_iff
abbrev zz:=@List.getElem?_set_ne
abbrev zA:=@PySem.Heap.get?_push_of_some
abbrev zB:=@Int.mul_le_mul_of_nonneg_right
abbrev zC:=@Nat.le_refl
abbrev zD:=@List.mem_singleton
abbrev zE:=@PySem.Heap.get?_push_size
abbrev zF:=@List.length_replicate
abbrev zG:=@PySem.wpAny_pure
abbrev zH:=@List.size_toArray
abbrev zI:=@PySem.Heap.lt_size
abbrev zJ:=@List.length_cons
abbrev zK:=@Nat.lt_of_lt_of_le
abbrev zL:=@Int.pow_succ
abbrev zM:=@List.getElem?_set_self
abbrev zN:=@Nat.ne_of_lt
abbrev zO:=@PySem.PassesOwn.never
abbrev zP:=@List.getElem?_map
abbrev zQ:=@decide_eq_false
abbrev zR:=@Int.lt_of_le_of_lt
abbrev zS:=@List.getElem?_append_left
abbrev zT:=@List.mem_append
abbrev zU:=@List.replicate_succ
abbrev zV:=@congrArg
abbrev zW:=@decide_eq_true
abbrev zX:=@List.getElem?_replicate
abbrev zY:=@List.mem_reverse
abbrev zZ:=@List.mem_map
abbrev y9:=@List.lookup_cons
abbrev ya:=@List.append_nil
abbrev yb:=@PySem.wpAny_holding
abbrev yc:=@PyProof.Rows.callWith_type1
abbrev yd:=@List.getElem_mem
abbrev ye:=@List.length_set
abbrev yf:=@List.getElem?_append_right
abbrev yg:=@Bool.false_ne_true
abbrev yh:=@Nat.add_sub_cancel
abbrev yi:=@Nat.le_trans
abbrev yj:=@List.length_singleton
abbrev yl:=@Option.some.inj
abbrev yn:=@Int.le_refl
abbrev yo:=@Int.mul_le_mul_of_nonneg_left
abbrev yp:=@List.map_append
abbrev yq:=@List.map_cons
abbrev yr:=@List.nodup_cons
abbrev yt:=@List.append_assoc
abbrev yu:=@List.reverse_cons
abbrev yw:=@decide_eq_true_eq
abbrev yx:=@Bool.and_eq_true
abbrev yy:=@PySem.wpAny_truthy_bool
abbrev yz:=@Int.le_trans
abbrev yA:=@Int.mul_comm
abbrev yB:=@List.mem_append_right
abbrev yC:=@Int.emod_lt_of_pos
abbrev yD:=@List.getElem?_drop
abbrev yE:=@Int.eq_ofNat_of_zero_le
abbrev yF:=@List.all_eq_true
abbrev yG:=@List.length_take
abbrev yH:=@List.mem_of_getElem?
abbrev yI:=@List.length_eq_zero_iff
abbrev yJ:=@List.reverse_append
abbrev yK:=@Int.add_zero
abbrev yL:=@Int.lt_trans
abbrev yM:=@List.length_drop
abbrev yN:=@Nat.zero_le
abbrev yO:=@Int.mul_le_mul
abbrev yP:=@List.dropLast_concat_getLast
abbrev yQ:=@List.mem_append_left
abbrev yR:=@Int.emod_nonneg
abbrev yS:=@Option.isSome_iff_exists
abbrev yT:=@List.length_reverse
abbrev yU:=@PySem.W.hideAll_get
abbrev yV:=@PySem.mem_of_lookup
abbrev yW:=@Array.getElem?_eq_some_iff
abbrev yX:=@List.sum_cons
abbrev yY:=@PySem.W.mg_none_of
abbrev yZ:=@PySem.wpAny_Call_Name_kw
abbrev x6:=@PySem.W.hideAll_none
abbrev x8:=@List.flatten_cons
abbrev x9:=@PySem.wpAny_loadPart_at
abbrev xa:=@Nat.toDigits_of_lt_base
abbrev xb:=@beq_eq_false_iff_ne
abbrev xc:=@Int.ediv_le_ediv
abbrev xd:=@PySem.Heap.get?_update_other
abbrev xf:=@Int.one_mul
abbrev xg:=@PySem.call_meets
abbrev xh:=@Int.add_comm
abbrev xi:=@PySem.Obj.data_mapFields
abbrev xj:=@PySem.W.callWith_K
abbrev xk:=@PySem.StrLaws.glued_eq_join
abbrev xl:=@PySem.wpAny_passesOwn
abbrev xm:=@of_decide_eq_true
abbrev xn:=@List.mem_of_mem_take
abbrev xo:=@PySem.wpAny_mono
abbrev xp:=@PySem.Heap.size_push
abbrev xq:=@Array.all_toList
abbrev xr:=@List.map_reverse
abbrev xt:=@List.not_mem_nil
abbrev xu:=@Nat.lt_trans
abbrev xv:=@Array.length_toList
abbrev xw:=@List.getElem_of_mem
abbrev xx:=@Nat.lt_irrefl
abbrev xy:=@PySem.wpAny_standAt
abbrev xz:=@Int.pow_add
abbrev xA:=@Int.toNat_natCast
abbrev xB:=@Int.pow_zero
abbrev xC:=@Int.zero_add
abbrev xD:=@Nat.le_of_lt
abbrev xE:=@Nat.le_of_not_lt
abbrev xF:=@Int.mul_assoc
abbrev xG:=@PySem.sizeLine_eq
abbrev xH:=@PySem.wpAny_execs_nil
local macro_rules|`(tactic|omega)=>pure (L2.zzM #[] "'( 'lia 0null 1#optConfig 2#lia^ ') 3#paren")
local macro_rules|`(tactic|cases $h:ident)=>pure (L2.zzM #[h] "'( 'first '| '( 'injection $a 'with $a 1null 2null 3#injection '; 'done 1#done 3null 1#tacticSeq1Indented 1#tacticSeq ') 3#paren^ 2group '| 'subst $a 1null 2#subst^ 2group '| '( 'injection $a 'with $a 1null 2null 3#injection '; 'injection $a 'with $a 1null 2null 3#injection '; 'done 1#done 5null 1#tacticSeq1Indented 1#tacticSeq ') 3#paren^ 2group '| '( 'injection $a 'with $a 1null 2null 3#injection '; 'subst $a 1null 2#subst 3null 1#tacticSeq1Indented 1#tacticSeq ') 3#paren^ 2group '| '( 'injection $a 'with $a 1null 2null 3#injection '; 'injection $a 'with $a 1null 2null 3#injection '; 'subst $a 1null 2#subst 5null 1#tacticSeq1Indented 1#tacticSeq ') 3#paren^ 2group '| '( 'injection $a 'with $a 1null 2null 3#injection '; 'injection $a 'with $a 1null 2null 3#injection '; 'injection $a 'with $a 1null 2null 3#injection '; 'subst $a 1null 2#subst 7null 1#tacticSeq1Indented 1#tacticSeq ') 3#paren^ 2group '| 'cases 0null @ $a * 2#elimTarget 1null 0null 0null 4#cases^ 2group 7null 2#first^ ') 3#paren")
set_option Elab.async false
set_option linter.all false
set_option maxRecDepth 100000
set_option maxHeartbeats 4000000
namespace L2
open PySem PySem.Spec PyProof.Rows
abbrev Key:=Sum Int Str
def sY:Key->Value->Bool
 | .inl k,v=>Value.isInt k v
 | .inr x,v=>Value.isStrOf x v
def abm (w:World):Key->Int
 | .inl k=>hashInt k
 | .inr x=>hashStr w x
theorem b_:∀{k:Key} {v:Value},sY k v=true->(∃i t,k=Sum.inl i/\v=Value.int i t)\/(∃x t,k=Sum.inr x/\v=Value.str x t)
 | .inl i,v,h=>by
  obtain ⟨t,e⟩:=Value.isInt_shape (k:=i) (v:=v) h
  exact .inl ⟨i,t,rfl,e⟩
 | .inr x,v,h=>by
  obtain ⟨t,e⟩:=Value.isStrOf_shape (x:=x) (v:=v) h
  exact .inr ⟨x,t,rfl,e⟩
theorem Fp (i:Int) (t:Tok):sY (.inl i) (.int i t)=true:=by simp [sY,Value.isInt]
theorem Fq (x:Str) (t:Tok):sY (.inr x) (.str x t)=true:=by simp [sY,Value.isStrOf]
theorem Th (a b:Int):decide ((Sum.inl a:Key)=Sum.inl b)=(a == b):=by
 by_cases e:a=b
 ·subst e;simp
 ·have h:¬(Sum.inl a:Key)=Sum.inl b:=λq=>e (Sum.inl.inj q)
  rw [zQ h]
  exact (xb.mpr e).symm
theorem Ti (a b:Str):decide ((Sum.inr a:Key)=Sum.inr b)=decide (a=b):=by
 by_cases e:a=b
 ·subst e;simp
 ·have h:¬(Sum.inr a:Key)=Sum.inr b:=λq=>e (Sum.inr.inj q)
  rw [zQ h,zQ e]
theorem Tj (a:Int) (b:Str):decide ((Sum.inl a:Key)=Sum.inr b)=false:=zQ (λq=>nomatch q)
theorem Tn (a:Str) (b:Int):decide ((Sum.inr a:Key)=Sum.inl b)=false:=zQ (λq=>nomatch q)
def mF (prog:Program) (w:World):PySem.KeyKind prog w Key where
 is:=sY
 hash:=abm w
 inj:=λv a b D z=>by
  rcases b_ D with ⟨i,t,rfl,rfl⟩|⟨x,t,rfl,rfl⟩
  ·rcases b_ z with ⟨j,u,rfl,e⟩|⟨y,u,rfl,e⟩
   ·injection e with e1 _;rw [e1]
   ·exact nomatch e
  ·rcases b_ z with ⟨j,u,rfl,e⟩|⟨y,u,rfl,e⟩
   ·exact nomatch e
   ·injection e with e1 _;rw [e1]
 byValue:=λk v h=>by
  rcases b_ h with ⟨i,t,rfl,rfl⟩|⟨x,t,rfl,rfl⟩<;>rfl
 pyHash:=λn h=>by
  rcases b_ n with ⟨i,t,rfl,rfl⟩|⟨x,t,rfl,rfl⟩
  ·exact wpAny_pyHash_int h
  ·exact wpAny_pyHash_str h
 eqBool:=λB n h=>by
  rcases b_ B with ⟨i,t,rfl,rfl⟩|⟨x,t,rfl,rfl⟩
  ·rcases b_ n with ⟨j,u,rfl,rfl⟩|⟨y,u,rfl,rfl⟩
   ·rw [Th] at h;exact wpAny_eqBool_int h
   ·rw [Tj] at h;exact SeqAt.EqAt.int_str i t y u _ _ _ _ h
  ·rcases b_ n with ⟨j,u,rfl,rfl⟩|⟨y,u,rfl,rfl⟩
   ·rw [Tn] at h;exact SeqAt.EqAt.str_int x t j u _ _ _ _ h
   ·rw [Ti] at h;exact wpAny_eqBool_str h
 «strs»:=λk x t v h=>by
  rcases b_ h with ⟨i,u,rfl,e⟩|⟨y,u,rfl,e⟩
  ·exact nomatch e
  ·injection e with e1 _
   subst e1
   cases v<;>rfl
theorem v5 (prog:Program) (w:World) (i:Int) (t:Tok):(mF prog w).is (.inl i) (.int i t)=true:=Fp i t
theorem v8 (prog:Program) (w:World) (x:Str) (t:Tok):(mF prog w).is (.inr x) (.str x t)=true:=Fq x t
inductive V where
 | non|bl (b:Bool)|int (i:Int)|str (x:Str)|ref (a:Addr)|ty (n:String)
 deriving DecidableEq
def RelV:V->Value->Prop
 | .non,u=>u=Value.none
 | .bl b,u=>u=Value.bool b
 | .int i,u=>∃t,u=Value.int i t
 | .str x,u=>∃t,u=Value.str x t
 | .ref a,u=>u=Value.ref a
 | .ty n,u=>u=Value.type n
abbrev Vals:List V->List Value->Prop:=Paired RelV
theorem Vals.length {xs:List V} {us:List Value} (r:Vals xs us):xs.length=us.length:=Paired.length r
theorem Vals.get:∀{xs:List V} {n:List Value} {i:Nat} {x:V},Vals xs n->xs[i]? = some x->∃u,n[i]? = some u/\RelV x u
 | _,_,_,_,.nil,e=>by simp at e
 | _,_,0,_,.cons r _,e=>by simp at e;subst e;exact ⟨_,rfl,r⟩
 | _,_,i+1,x,.cons _ t,e=>by
  obtain ⟨u,h1,h2⟩:=Vals.get (i:=i) (x:=x) t (by simpa using e)
  exact ⟨u,by simpa using h1,h2⟩
theorem Vals.set (r:RelV x u):∀{xs:List V} {n:List Value} (i:Nat),Vals xs n->Vals (xs.set i x) (n.set i u)
 | _,_,_,.nil=>.nil
 | _,_,0,.cons _ t=>.cons r t
 | _,_,i+1,.cons q t=>.cons q (Vals.set r i t)
theorem Vals.append:∀{xs ys:List V} {z n:List Value},Vals xs z->Vals ys n->Vals (xs++ys) (z++n)
 | _,_,_,_,.nil,s=>s
 | _,_,_,_,.cons r t,s=>.cons r (Vals.append t s)
theorem Vals.take:∀{xs:List V} {z:List Value} (n:Nat),Vals xs z->Vals (xs.take n) (z.take n)
 | _,_,0,_=>.nil
 | _,_,_+1,.nil=>.nil
 | _,_,n+1,.cons r t=>.cons r (Vals.take n t)
theorem Vals.drop:∀{xs:List V} {z:List Value} (n:Nat),Vals xs z->Vals (xs.drop n) (z.drop n)
 | _,_,0,r=>r
 | _,_,_+1,.nil=>.nil
 | _,_,n+1,.cons _ t=>Vals.drop n t
def pD:Option V->Option Value->Prop
 | some v,some u=>RelV v u
 | none,none=>True
 | _,_=>False
def KV {κ:Type}:List (κ × V)->List (κ × Value)->Prop:=Paired λ(p:κ × V) (q:κ × Value)=>p.1=q.1/\RelV p.2 q.2
def kV:Key->V
 | .inl i=>.int i
 | .inr x=>.str x
inductive HO where
 | lst (xs:List V)
 | tup (xs:List V)
 | dK (kvs:List (Key × V))
 | ins (C dx:Addr) (fs:List (Str × V))
 | own (x:Addr)
 | Bd (o:Obj) (u:HO)
 | ext (φ:Heap->Prop)
abbrev Hp:=Addr->Option HO
def upd (H:Hp) (a:Addr) (o:HO):Hp:=λb=>if b=a then some o else H b
theorem aN {H:Hp} {a:Addr} {o:HO}:upd H a o a=some o:=by unfold upd;rw [zo rfl]
theorem aC {H:Hp} {a b:Addr} {o:HO} (h:b≠a):upd H a o b=H b:=by unfold upd;rw [zi h]
theorem gk {H:Hp} {a b:Addr} {o:HO} (h:H a=some o) (h':H b=none):a≠b:=by
 intro e;subst e;rw [h] at h';cases h'
section
variable (P:Program) (w:World)
def bK (H:Hp) (h:Heap) (a:Addr):HO->Prop
 | .lst xs=>xs.length<=sizeLine/\∃(z:List Value) (n:Nat),Vals xs z/\h.get? a=some { cls:=.type "list",data:=.seq z.toArray n }
 | .tup xs=>xs.length<=sizeLine/\∃z:List Value,Vals xs z/\IsTup h a z.toArray
 | .dK kvs=>kvs.length<=sizeLine/\(a == sysModules)=false/\∃vs,KV kvs vs/\h.DictOf (mF P w) a vs
 | .ins C dx fs=>H dx=some (.own a)/\fs.length<=1000/\dx≠a/\h.get? a=some (PySem.W.instObj C dx) /\
   ∃mA,h.Ns1 dx mA/\(∀f,pD (fs.lookup f) (mA f))/\PySem.Within mA (fs.map (·.1))
 | .own _=>∃o,h.get? a=some o
 | .Bd o u=>h.get? a=some o/\bK H h a u
 | .ext φ=>φ h/\(∃o,h.get? a=some o)/\∀h1 h2:Heap,φ h1->(∀o,h1.get? a=some o->h2.get? a=some o)->φ h2
def jE (H:Hp) (h:Heap):Prop:=∀a o,H a=some o->bK P w H h a o
end
section
variable {P:Program} {w:World} {H H':Hp} {h h':Heap} {a:Addr} {o:HO}
theorem bK.lt (x:bK P w H h a o):a<h.objs.size:=by
 cases o with
 | lst xs=>obtain ⟨_,_,_,_,e⟩:=x;exact zI e
 | tup xs=>obtain ⟨_,_,_,p⟩:=x;exact p.lt
 | dK kvs=>obtain ⟨_,_,_,_,o,_,_,e,_⟩:=x;exact zI e
 | ins C dx fs=>obtain ⟨_,_,_,e,_⟩:=x;exact zI e
 | own y=>obtain ⟨_,e⟩:=x;exact zI e
 | Bd ob u=>obtain ⟨e,_⟩:=x;exact zI e
 | ext φ=>obtain ⟨_,⟨_,e⟩,_⟩:=x;exact zI e
theorem bK.stay (x:bK P w H h a o) (k:∀b u,(b=a\/H b=some (.own a))->h.get? b=some u->h'.get? b=some u)
  (O:∀b,H b=some (.own a)->H' b=some (.own a)):bK P w H' h' a o:=by
 induction o with
 | lst xs=>obtain ⟨z,B,n,r,e⟩:=x;exact ⟨z,B,n,r,k _ _ (.inl rfl) e⟩
 | tup xs=>obtain ⟨z,B,r,D,e,c⟩:=x;exact ⟨z,B,r,D,k _ _ (.inl rfl) e,c⟩
 | dK kvs=>obtain ⟨z,y,vs,r,D,es,I,e,c⟩:=x;exact ⟨z,y,vs,r,D,es,I,k _ _ (.inl rfl) e,c⟩
 | ins C dx fs=>
  obtain ⟨d,z,ne,e,mA,⟨J,es,I,e2,c⟩,r⟩:=x
  exact ⟨O _ d,z,ne,k _ _ (.inl rfl) e,mA,⟨J,es,I,k _ _ (.inr d) e2,c⟩,r⟩
 | own y=>obtain ⟨D,e⟩:=x;exact ⟨D,k _ _ (.inl rfl) e⟩
 | Bd D u ih=>obtain ⟨e,q⟩:=x;exact ⟨k _ _ (.inl rfl) e,ih q⟩
 | ext φ=>obtain ⟨p,⟨o,e⟩,st⟩:=x;exact ⟨st _ _ p λo q=>k _ _ (.inl rfl) q,⟨o,k _ _ (.inl rfl) e⟩,st⟩
theorem jE.lt (x:jE P w H h) (e:H a=some o):a<h.objs.size:=(x a o e).lt
theorem jE.fresh (x:jE P w H h) (e:h.objs.size<=a):H a=none:=by
 cases q:H a with
 | none=>rfl
 | some u=>exact absurd (zK (x.lt q) e) (xx _)
theorem jE.track (x:jE P w H h) (z:H a=none) (new:bK P w (upd H a o) h a o):jE P w (upd H a o) h:=λb u e=>by
 by_cases n:b=a
 ·subst n;rw [aN] at e;cases e;exact new
 ·rw [aC n] at e
  exact (x b u e).stay (λ_ _ _ q=>q) λc q=>by rw [aC (gk q z)];exact q
theorem jE.moved {ch:List Addr} (x:jE P w H h) (B:∀b∈ch,H b=none) (k:∀b u,b ∉ ch->h.get? b=some u->h'.get? b=some u):jE P w H h':=λb u e=>
 (x b u e).stay (λc v n q=>k c v (λz=>by
  rcases n with rfl|n
  ·rw [B _ z] at e;cases e
  ·rw [B _ z] at n;cases n) q) λ_ q=>q
theorem jE.kept (x:jE P w H h) (k:∀b u,h.get? b=some u->h'.get? b=some u):jE P w H h':=x.moved (ch:=[]) (λ_ z=>nomatch z) λb u _ q=>k b u q
theorem jE.laid (x:jE P w H h) (k:∀b u,h.get? b=some u->h'.get? b=some u) (n:h.objs.size<=a) (new:bK P w (upd H a o) h' a o):jE P w (upd H a o) h':=(x.kept k).track (x.fresh n) new
end
def Rd (H:Hp) (a:Addr) (u:HO):Prop:=H a=some u\/∃o,H a=some (.Bd o u)
theorem Rd.ok {P:Program} {w:World} {H:Hp} {h:Heap} {a:Addr} {u:HO} (r:Rd H a u) (x:jE P w H h):bK P w H h a u:=by
 rcases r with r|⟨o,r⟩
 ·exact x a u r
 ·obtain ⟨_,q⟩:=x a _ r
  exact q
def Mut:Option HO->Prop
 | some (.lst _)=>True
 | some (.dK _)=>True
 | some (.ins _ _ _)=>True
 | some (.ext _)=>True
 | _=>False
section
variable {P:Program} {w:World} {H:Hp} {h h':Heap} {x e:Addr} {o':HO}
theorem jE.write (ok:jE P w H h) (mu:Mut (H x)) (he:e=x\/H e=some (.own x)) (k:∀b u,b≠e->h.get? b=some u->h'.get? b=some u) (J:∃u,h'.get? e=some u)
  (new:bK P w (upd H x o') h' x o'):jE P w (upd H x o') h':=λb u q=>by
 have B:∀c y,H c=some (.own y)->c≠x:=λc y r z=>by subst z;rw [r] at mu;exact mu
 by_cases I:b=x
 ·subst I;rw [aN] at q;cases q;exact new
 ·rw [aC I] at q
  by_cases n:b=e
  ·have q':H b=some (.own x):=by
    rcases he with z|z
    ·exact absurd (n.trans z) I
    ·rw [n];exact z
   rw [q] at q';cases q'
   obtain ⟨v,O⟩:=J
   exact ⟨v,by rw [n];exact O⟩
  ·refine (ok b u q).stay (λc v D r=>k c v ?_ r) λc r=>by rw [aC (B c b r)];exact r
   rcases D with rfl|D
   ·exact n
   ·rintro rfl
    rcases he with z|z
    ·exact B c b D z
    ·rw [D] at z;cases z;exact I rfl
end
structure Un (fs ex:List Addr) (H H':Hp) (h h':Heap):Prop where
 keep:∀b o,h.get? b=some o->H b=none->b ∉ fs->b ∉ ex->h'.get? b=some o
 slot:∀b o,h.get? b=some o->H b=none->b∈fs->b ∉ ex->∃sl,h'.get? b=some { o with slots:=sl }
 free:∀b o,h.get? b=some o->H b=none->b ∉ ex->H' b=none
 there:∀b o,h.get? b=some o->b ∉ ex->∃o',h'.get? b=some o'
 qg:∀b o u,H b=some (.Bd o u)->H' b=some (.Bd o u)
section
variable {fs fs' ex ex':List Addr} {H H1 H2:Hp} {h h1 h2 h':Heap} {a x e:Addr} {o:HO}
theorem Un.any (u:Un fs ex H H1 h h1) {b:Addr} {z:Obj} (q:h.get? b=some z) (n:H b=none) (B:b ∉ ex):∃sl,h1.get? b=some { z with slots:=sl }:=by
 by_cases D:b∈fs
 ·exact u.slot b z q n D B
 ·exact ⟨z.slots,u.keep b z q n D B⟩
theorem Un.kept (k:∀b u,h.get? b=some u->h'.get? b=some u):Un fs ex H H h h':=
 ⟨λb z q _ _ _=>k b z q,λb z q _ _ _=>⟨z.slots,k b z q⟩,λ_ _ _ n _=>n,λb z q _=>⟨z,k b z q⟩,λ_ _ _ q=>q⟩
theorem Un.refl:Un fs ex H H h h:=Un.kept λ_ _ q=>q
theorem Un.laid (k:∀b u,h.get? b=some u->h'.get? b=some u) (z:h.objs.size<=a) (B:H a=none):Un fs ex H (upd H a o) h h' where
 keep:=λb u q _ _ _=>k b u q
 slot:=λb u q _ _ _=>⟨u.slots,k b u q⟩
 free:=λb u q n _=>by rw [aC (zN (zK (zI q) z))];exact n
 there:=λb u q _=>⟨u,k b u q⟩
 qg:=λb u xs q=>by rw [aC (gk q B)];exact q
theorem Un.write (mu:Mut (H x)) (he:e=x\/H e=some (.own x)) (k:∀b u,b≠e->h.get? b=some u->h'.get? b=some u) (D:∃u,h'.get? e=some u):Un fs ex H (upd H x o) h h':=by
 have I:∀b,H b=none->b≠x:=λb n z=>by subst z;rw [n] at mu;exact mu
 have J:∀b,H b=none->b≠e:=λb n z=>by
  subst z
  rcases he with r|r
  ·exact I b n r
  ·rw [n] at r;cases r
 have O:∀b u,H b=some u->¬Mut (some u)->b≠x:=λb u q nm z=>by subst z;rw [q] at mu;exact nm mu
 refine ⟨λb u q n _ _=>k b u (J b n) q,λb u q n _ _=>⟨u.slots,k b u (J b n) q⟩,λb u q n _=>by rw [aC (I b n)];exact n,λb u q _=>?_,
  λb u xs q=>by rw [aC (O b _ q λz=>z)];exact q⟩
 by_cases B:b=e
 ·subst B;exact D
 ·exact ⟨u,k b u B q⟩
end
def trk (h:Heap) (H:Hp):List Addr:=(List.range h.objs.size).filter λa=>(H a).isSome
def um (h:Heap) (H:Hp):Heap:=PySem.W.hideAll h (trk h H)
theorem Ft (h:Heap) (H:Hp):(um h H).objs.size=h.objs.size:=PySem.W.hideAll_size _ _
theorem Hl {h:Heap} (e:h.get? b=some o) (n:H b=none):(um h H).get? b=some o:=
 yU _ e λz=>by
  have q:(H b).isSome=true:=(List.mem_filter.mp z).2
  rw [n] at q;simp at q
theorem NK {h:Heap} (e:(um h H).get? b=some o):h.get? b=some o/\H b=none:=by
 have n:h.get? b=some o:=PySem.W.of_hideAll (trk h H) e
 refine ⟨n,?_⟩
 cases q:H b with
 | none=>rfl
 | some x=>
  have B:b∈trk h H:=List.mem_filter.mpr ⟨List.mem_range.mpr (zI n),by simp [q]⟩
  have z:(um h H).get? b=none:=x6 (trk h H) B
  rw [z] at e;cases e
def NP (g h:Heap) (L:Addr):List (Addr × Obj):=(List.range h.objs.size).filterMap λa=>if a=L\/(g.get? a).isSome=true then none else (h.get? a).map λo=>(a,o)
def rest (g h:Heap) (L d:Addr):List (Addr × Obj):=(NP g h L).filter λp=>decide (p.1≠d)
structure Mod (K:PySem.W.Frag) (mg:Str->Option Value) (base:Heap):Prop where
 NQ:K.In base
 glob:base.Ns mainGlobals mg
 blt:∃mb,base.Ns builtinsNs mb/\∀x:Str,x≠"__name__"->mb x=bootBuiltins x
 nolimit:base.NoLimit
structure Cx where
 prog:Program
 w:World
 K:PySem.W.Frag
 mg:Str->Option Value
 base:Heap
 A:Around
 N:List Str
 s₀:Shared
 H₀:Hp
 env:Env
 outer:List Env
 stack:List Env
 ex:List Addr
 fn:Str->Bool
 calm:Bool
 pn:List (Addr × Obj)
 xe:Value->Shared->Prop
def frs (l:List Env):List Addr:=l.filterMap (·.frame)
abbrev Cx.fs (X:Cx):List Addr:=frs X.outer
def Xy (n:Scope) (x:Str):Prop:=n.names.lookup x=some .local\/n.names.lookup x=some .cell\/n.names.lookup x=some .free
def Loc (n:Scope) (x:Str):Prop:=n.names.lookup x=some .local\/n.names.lookup x=some .cell
def Look (env:Env) (h:Heap) (m:Str->Option Value) (x:Str) (u:Value):Prop:=
 (env.kindOf x=some .local/\m x=some u)\/((env.kindOf x=some .cell\/env.kindOf x=some .free)/\∃c,env.cells.lookup x=some c/\h.IsCell c (some u))
structure Cx.Ok (X:Cx):Prop where
 mod:Mod X.K X.mg X.base
 kind:X.env.scope.kind=.function
 glob:X.env.globals=mainGlobals
 blt:X.env.builtins=builtinsNs
 above:X.s₀.heap.objs.size<=X.env.locals
 inj:∀x y c,X.env.cells.lookup x=some c->X.env.cells.lookup y=some c->x=y
 has:∀x,(X.env.kindOf x=some .cell\/X.env.kindOf x=some .free)->∃c,X.env.cells.lookup x=some c
 cab:∀x c,X.fn x=true->X.env.cells.lookup x=some c->X.s₀.heap.objs.size<=c
 hd:X.calm=true->X.A.handled=none
 frames:X.A.frames=some X.stack
 stk:X.stack=X.outer\/(X.stack=X.env::X.outer/\X.env.frame=some X.env.locals)
 Tp:∀b∈X.ex,b≠X.env.locals/\∀x c,X.env.cells.lookup x=some c->c≠b
 bs:∀b o,X.base.get? b=some o->X.s₀.heap.get? b=some o/\X.H₀ b=none
 Fv:X.base.objs.size<=X.s₀.heap.objs.size
 sG:∀b o,X.base.get? b=some o->b ∉ X.ex
 uo:∀b∈X.ex,b ∉ X.fs
 jF:X.s₀.heap.FunFrames X.base X.outer
 G9:∀b∈X.fs,X.H₀ b=none
structure Inv (X:Cx) (pins:List (Addr × Obj)) (σ:List (Option V)) (H:Hp) (s:Shared):Prop where
 ok:X.Ok
 os:s.os=X.s₀.os
 bare:AllBare s.gens
 base:Un X.fs X.ex X.H₀ H X.s₀.heap s.heap
 loc:∃m,s.heap.Ns X.env.locals m/\∀(i:Nat) (x:Str) (v:V),X.N[i]? = some x->σ[i]? = some (some v)->Xy X.env.scope x->∃u,RelV v u/\Look X.env s.heap m x u
 cell:∀x c,X.env.cells.lookup x=some c->∃v,s.heap.IsCell c v
 free:H X.env.locals=none
 fc:∀x c,X.env.cells.lookup x=some c->H c=none
 pin:∀p∈X.pn++pins,s.heap.get? p.1=some p.2/\H p.1=none/\p.1≠X.env.locals/\p.1 ∉ X.fs/\∀v,p.2.data≠.cell v
 hok:jE X.prog X.w H s.heap
 len:σ.length=X.N.length
structure FpX (X:Cx) (pins:List (Addr × Obj)) (b:Addr):Prop where
 l:b≠X.env.locals
 f:b ∉ X.fs
 e:b∈X.ex\/X.s₀.heap.get? b=none
 c:∀x c,X.env.cells.lookup x=some c->c≠b
 p:∀p∈X.pn++pins,p.1≠b
def mG (X:Cx) (n:List (Addr × Obj)) (H:Hp) (b:Addr):Prop:=H b=none/\FpX X n b
section
variable {X:Cx} {pins:List (Addr × Obj)} {σ:List (Option V)} {H H':Hp} {s:Shared} {h':Heap}
theorem Cx.Ok.abn (ok:X.Ok) (e:X.base.get? b=some o):b ∉ X.fs:=λn=>by
 have:=(ok.jF.mem n).1
 rw [e] at this;cases this
theorem Inv.bs (I:Inv X pins σ H s):∀b o,X.base.get? b=some o->s.heap.get? b=some o/\H b=none:=λb o e=>
 ⟨I.base.keep b o (I.ok.bs b o e).1 (I.ok.bs b o e).2 (I.ok.abn e) (I.ok.sG b o e),I.base.free b o (I.ok.bs b o e).1 (I.ok.bs b o e).2 (I.ok.sG b o e)⟩
theorem Inv.bk (I:Inv X pins σ H s):∀b o,X.base.get? b=some o->s.heap.get? b=some o:=λb o e=>(I.bs b o e).1
theorem Inv.mod (I:Inv X pins σ H s):Mod X.K X.mg X.base:=I.ok.mod
theorem Inv.qj (I:Inv X pins σ H s):X.K.In s.heap:=I.ok.mod.NQ.keeps I.bk
theorem Inv.lt (I:Inv X pins σ H s):X.env.locals<s.heap.objs.size:=let ⟨_,hn,_⟩:=I.loc;hn.lt
theorem Inv.sz (I:Inv X pins σ H s):X.s₀.heap.objs.size<=s.heap.objs.size:=yi I.ok.above (xD I.lt)
theorem Inv.X6 (I:Inv X pins σ H s) (h:s.heap.objs.size<=a):a ∉ X.fs:=λz=>by
 obtain ⟨_,o,n,_⟩:=I.ok.jF.mem z
 exact absurd (zK (zI n) (yi I.sz h)) (xx _)
theorem Inv.Tq (I:Inv X pins σ H s):∀x c,X.env.cells.lookup x=some c->c≠X.env.locals:=λx c e z=>by
 obtain ⟨v,o,B,hd⟩:=I.cell x c e
 obtain ⟨m,⟨o',es,D,n,hd',_⟩,_⟩:=I.loc
 rw [z,n] at B;cases B;rw [hd'] at hd;cases hd
theorem Inv.jF (I:Inv X pins σ H s):s.heap.FunFrames X.base X.outer:=by
 have all:∀(l:List Env),(∀b∈frs l,b∈X.fs)->X.s₀.heap.FunFrames X.base l->s.heap.FunFrames X.base l:=by
  intro l
  induction l with
  | nil=>intro _ _;trivial
  | cons env r ih=>
   intro B U
   obtain ⟨Y,⟨L,o,hf,O,J,hd⟩,D⟩:=U
   have hL:L∈X.fs:=B L (by unfold frs;rw [List.filterMap_cons,hf];exact zn)
   obtain ⟨sl,e⟩:=I.base.slot L o J (I.ok.G9 L hL) hL λz=>I.ok.uo L z hL
   exact ⟨Y,⟨L,_,hf,O,e,hd⟩,ih (λb n=>B b (by unfold frs;rw [List.filterMap_cons,hf];exact zr _ n)) D⟩
 exact all X.outer (λ_ n=>n) I.ok.jF
theorem Inv.stack (I:Inv X pins σ H s):s.heap.FunFrames X.base X.stack:=by
 rcases I.ok.stk with e|⟨e,hf⟩
 ·rw [e];exact I.jF
 ·rw [e]
  obtain ⟨m,n,_⟩:=I.loc
  refine .cons (by rw [I.ok.kind];decide) hf n ?_ I.jF
  exact Heap.get?_none_of_le (yi I.ok.Fv I.ok.above)
theorem Inv.k_ (I:Inv X pins σ H s):∀b∈frs X.stack,b∈X.env.locals::X.fs:=λb n=>by
 rcases I.ok.stk with e|⟨e,hf⟩
 ·rw [e] at n;exact zr _ n
 ·rw [e] at n
  unfold frs at n
  rw [List.filterMap_cons,hf] at n
  exact n
theorem Inv.uq (I:Inv X pins σ H s):∀b∈frs X.stack,H b=none:=λb n=>by
 rcases zu.mp (I.k_ b n) with e|n
 ·rw [e];exact I.free
 ·obtain ⟨_,o,B,_⟩:=I.ok.jF.mem n
  exact I.base.free b o B (I.ok.G9 b n) λz=>I.ok.uo b z n
theorem Inv.step {g':Array GenState} {t':Nat} {d':Drawn} {ch:List Addr} (I:Inv X pins σ H s)
  (J:∀b∈ch,FpX X pins b)
  (keep:∀b o,b≠X.env.locals->b ∉ X.fs->b ∉ ch->s.heap.get? b=some o->H b=none->h'.get? b=some o)
  (slot:∀b o,b≠X.env.locals->b∈X.fs->b ∉ ch->s.heap.get? b=some o->H b=none->∃sl,h'.get? b=some { o with slots:=sl }) (free:∀b o,b ∉ ch->s.heap.get? b=some o->H b=none->H' b=none)
  (there:∀b o,b ∉ ch->s.heap.get? b=some o->∃o',h'.get? b=some o')
  (qg:∀b o u,H b=some (.Bd o u)->H' b=some (.Bd o u))
  (ns:∀m,s.heap.Ns X.env.locals m->h'.Ns X.env.locals m) (hok:jE X.prog X.w H' h') (hg:AllBare g') :
  Inv X pins σ H' { s with heap:=h',gens:=g',drawn:=d',toks:=t' }:=by
 have neL:∀b o,X.s₀.heap.get? b=some o->b≠X.env.locals:=λb o e=>zN (zK (zI e) I.ok.above)
 have U:∀b o,X.s₀.heap.get? b=some o->b ∉ X.ex->b ∉ ch:=λb o e B Y=>by
  rcases (J b Y).e with z|z
  ·exact B z
  ·rw [z] at e;cases e
 have O:∀x c,X.env.cells.lookup x=some c->∀v,s.heap.IsCell c v->h'.IsCell c v:=λx c e v zq=>by
  obtain ⟨o,Z,hd⟩:=zq
  have D:c ∉ ch:=λz=>(J c z).c x c e rfl
  by_cases hc:c∈X.fs
  ·obtain ⟨sl,q⟩:=slot c o (I.Tq x c e) hc D Z (I.fc x c e)
   exact ⟨_,q,hd⟩
  ·exact ⟨o,keep c o (I.Tq x c e) hc D Z (I.fc x c e),hd⟩
 refine ⟨I.ok,I.os,hg,⟨λb o e n Y B=>?_,λb o e n Y B=>?_,λb o e n B=>?_,λb o e B=>?_,λb o xs e=>qg b o xs (I.base.qg b o xs e)⟩,?_,λx c e=>?_,?_,λx c e=>?_,λp hp=>?_,hok,I.len⟩
 ·exact keep b o (neL b o e) Y (U b o e B) (I.base.keep b o e n Y B) (I.base.free b o e n B)
 ·obtain ⟨sl,e1⟩:=I.base.slot b o e n Y B
  obtain ⟨sl',e2⟩:=slot b _ (neL b o e) Y (U b o e B) e1 (I.base.free b o e n B)
  exact ⟨sl',e2⟩
 ·obtain ⟨o',e1⟩:=I.base.there b o e B
  exact free b o' (U b o e B) e1 (I.base.free b o e n B)
 ·obtain ⟨o',e1⟩:=I.base.there b o e B
  exact there b o' (U b o e B) e1
 ·obtain ⟨m,hn,hl⟩:=I.loc
  refine ⟨m,ns m hn,λi x v e1 e2 e3=>?_⟩
  obtain ⟨u,r,l⟩:=hl i x v e1 e2 e3
  refine ⟨u,r,?_⟩
  rcases l with l|⟨k,c,e,z⟩
  ·exact .inl l
  ·exact .inr ⟨k,c,e,O x c e _ z⟩
 ·obtain ⟨v,z⟩:=I.cell x c e
  exact ⟨v,O x c e v z⟩
 ·obtain ⟨m,⟨o,_,_,Z,_⟩,_⟩:=I.loc
  exact free _ o (λz=>(J _ z).l rfl) Z I.free
 ·obtain ⟨v,o,Z,hd⟩:=I.cell x c e
  exact free c o (λz=>(J c z).c x c e rfl) Z (I.fc x c e)
 ·obtain ⟨e,n,ne,nf,d⟩:=I.pin p hp
  have D:p.1 ∉ ch:=λz=>(J p.1 z).p p hp rfl
  exact ⟨keep p.1 p.2 ne nf D e n,free p.1 p.2 D e n,ne,nf,d⟩
theorem Inv.un {t':Nat} (I:Inv X pins σ H s) (u:Un X.fs [] H H' s.heap h') (hok:jE X.prog X.w H' h'):Inv X pins σ H' { s with heap:=h',toks:=t' }:=by
 obtain ⟨m,⟨o,es,ep,U,r⟩,_⟩:=id I.loc
 obtain ⟨sl,hL⟩:=u.any U I.free (by simp)
 exact I.step (g':=s.gens) (d':=s.drawn) (ch:=[]) (λ_ z=>nomatch z) (λb o _ D _ e n=>u.keep b o e n D (by simp)) (λb o _ D _ e n=>u.slot b o e n D (by simp)) (λb o _ e n=>u.free b o e n (by simp)) (λb o _ e=>u.there b o e (by simp)) u.qg (λm' Z=>by
  obtain ⟨o',J,O,B,Y⟩:=Z
  rw [U] at B;cases B
  exact ⟨_,J,O,hL,Y⟩) hok I.bare
theorem Inv.call {g':Array GenState} {t':Nat} {d':Drawn} {ch:List Addr} (I:Inv X pins σ H s) (u:Un (frs X.stack) ch H H' s.heap h') (hok:jE X.prog X.w H' h') (hg:AllBare g')
  (J:∀b∈ch,FpX X pins b) :
  Inv X pins σ H' { s with heap:=h',gens:=g',drawn:=d',toks:=t' }:=by
 obtain ⟨m,⟨o,es,ep,Y,r⟩,_⟩:=id I.loc
 obtain ⟨sl,hL⟩:=u.any Y I.free λz=>(J _ z).l rfl
 exact I.step (ch:=ch) J (λb o hL hb B e n=>u.keep b o e n (λz=>(zu.mp (I.k_ b z)).elim hL hb) B) (λb o _ _ B e n=>u.any e n B) (λb o B e n=>u.free b o e n B) (λb o B e=>u.there b o e B) u.qg (λm' hm=>by
  obtain ⟨o',O,U,D,Z⟩:=hm
  rw [Y] at D;cases D
  exact ⟨_,O,U,hL,Z⟩) hok hg
theorem Inv.moved {t':Nat} {ch:List Addr} (I:Inv X pins σ H s) (hf:∀b∈ch,mG X pins H b) (k:∀b o,b ∉ ch->s.heap.get? b=some o->h'.get? b=some o) (e:∀b,b ∉ ch->b<s.heap.objs.size->H' b=H b) (hok:jE X.prog X.w H' h') :
  Inv X pins σ H' { s with heap:=h',toks:=t' }:=
 I.step (g':=s.gens) (d':=s.drawn) (ch:=ch) (λb O=>(hf b O).2) (λb o _ _ B q _=>k b o B q) (λb o _ _ B q _=>⟨o.slots,k b o B q⟩) (λb o B q n=>by rw [e b B (zI q)];exact n)
  (λb o B q=>⟨o,k b o B q⟩) (λb o u q=>by rw [e b (λz=>by rw [(hf b z).1] at q;cases q) (I.hok.lt q)];exact q) (λm J=>by
   obtain ⟨o,es,U,D,r⟩:=J
   exact ⟨o,es,U,k _ o (λz=>(hf _ z).2.l rfl) D,r⟩) hok I.bare
theorem Inv.turned {t':Nat} {B:Addr} (I:Inv X pins σ H s) (f:mG X pins H B) (k:∀b o,b≠B->s.heap.get? b=some o->h'.get? b=some o):Inv X pins σ H { s with heap:=h',toks:=t' }:=
 have m:∀b∈[B],mG X pins H b:=λb n=>zD.mp n▸f
 have D:∀b o,b ∉ [B]->s.heap.get? b=some o->h'.get? b=some o:=λb o n=>k b o λz=>n (zD.mpr z)
 I.moved m D (λ_ _ _=>rfl) (I.hok.moved (λb n=>(m b n).1) D)
theorem Inv.tok (I:Inv X pins σ H s) (t:Nat):Inv X pins σ H { s with toks:=t }:=I.un (h':=s.heap) (t':=t) Un.refl I.hok
theorem Inv.kept {t':Nat} (I:Inv X pins σ H s) (k:∀b u,s.heap.get? b=some u->h'.get? b=some u):Inv X pins σ H { s with heap:=h',toks:=t' }:=I.un (Un.kept k) (I.hok.kept k)
theorem Inv.laid (I:Inv X pins σ H s) (k:∀b u,s.heap.get? b=some u->h'.get? b=some u) (n:s.heap.objs.size<=a) (new:bK X.prog X.w (upd H a o) h' a o) :
  Inv X pins σ (upd H a o) { s with heap:=h',toks:=t' }:=I.un (Un.laid k n (I.hok.fresh n)) (I.hok.laid k n new)
theorem Inv.write (I:Inv X pins σ H s) (mu:Mut (H x)) (he:e=x\/H e=some (.own x)) (k:∀b u,b≠e->s.heap.get? b=some u->h'.get? b=some u) (n:∃u,h'.get? e=some u)
  (new:bK X.prog X.w (upd H x o) h' x o):Inv X pins σ (upd H x o) { s with heap:=h',toks:=t' }:=I.un (Un.write mu he k n) (I.hok.write mu he k n new)
theorem Inv.pK (I:Inv X pins σ H s) (h:∀p∈Hq,s.heap.get? p.1=some p.2/\H p.1=none/\p.1≠X.env.locals/\p.1 ∉ X.fs/\∀v,p.2.data≠.cell v):Inv X Hq σ H s:=
 ⟨I.ok,I.os,I.bare,I.base,I.loc,I.cell,I.free,I.fc,λp n=>(zT.mp n).elim (λz=>I.pin p (yQ _ z)) (h p),I.hok,I.len⟩
theorem v9 {N:List Str} (hN:N.Nodup) {i j:Nat} {x:Str} (a:N[i]? = some x) (b:N[j]? = some x):i=j:=by
 obtain ⟨h1,e1⟩:=zx.mp a
 obtain ⟨h2,e2⟩:=zx.mp b
 exact (List.getElem_inj hN).mp (e1.trans e2.symm)
theorem sZ {M:Model} {A:Around} {E:Value->Shared->Prop} {i:Nat} {x:Str} {v:V} {u:Value} {Q:Unit->Shared->Prop} (I:Inv X pins σ H s) (hN:X.N.Nodup) (hi:X.N[i]? = some x) (O:Loc X.env.scope x) (r:RelV v u)
  (h:∀s',Inv X pins (σ.set i (some v)) H s'->(∃a,Heap.SameBut a s.heap s'.heap/\(a=X.env.locals\/X.env.cells.lookup x=some a))->Q () s') (hf:X.fn x=true\/X.env.scope.names.lookup x=some .local:=by first|exact .inl rfl|exact .inr rfl|assumption):wpAny M A (storeName X.env x u) Q E s:=by
 obtain ⟨m,hn,hl⟩:=id I.loc
 have hcls:(X.env.scope.kind == .class || (X.env.scope.kind == .module && X.env.locals != X.env.globals))=false:=by rw [I.ok.kind];rfl
 have hiσ:i<σ.length:=by rw [I.len];exact (zx.mp hi).1
 have Tq:=I.Tq
 have D:∀{a:Addr} {h':Heap},(∃o,s.heap.get? a=some o/\H a=none)->Heap.SameBut a s.heap h'->jE X.prog X.w H h':=λ{a h'} ha B b ob e=>by
  obtain ⟨_,_,U⟩:=ha
  refine (I.hok b ob e).stay (λc w' J q=>(B.2 c ?_).trans q) λ_ q=>q
  rintro rfl
  rcases J with rfl|J
  ·rw [U] at e;cases e
  ·rw [U] at J;cases J
 rcases O with Y|Y
 ·refine wpAny_storeName_local Y hn (λh' hn' B=>?_) hcls
  obtain ⟨oL,_,_,hoL,_⟩:=id hn
  refine h _ ⟨I.ok,I.os,I.bare,⟨λb o e n hb O=>?_,λb o e n hb O=>?_,I.base.free,λb o e O=>?_,I.base.qg⟩,⟨_,hn',λj y v' e1 e2 e3=>?_⟩,λy c e=>?_,I.free,I.fc,λp hp=>?_,D ⟨oL,hoL,I.free⟩ B,by simpa using I.len⟩ ⟨_,B,.inl rfl⟩
  ·exact (B.2 b (zN (zK (zI e) I.ok.above))).trans (I.base.keep b o e n hb O)
  ·obtain ⟨sl,e1⟩:=I.base.slot b o e n hb O
   exact ⟨sl,(B.2 b (zN (zK (zI e) I.ok.above))).trans e1⟩
  ·obtain ⟨o',e1⟩:=I.base.there b o e O
   exact ⟨o',(B.2 b (zN (zK (zI e) I.ok.above))).trans e1⟩
  ·by_cases Z:j=i
   ·subst Z
    rw [hi] at e1;cases e1
    rw [zM hiσ] at e2
    cases e2
    exact ⟨u,r,.inl ⟨Y,by simp⟩⟩
   ·rw [zz (Ne.symm Z)] at e2
    obtain ⟨u',r',q⟩:=hl j y v' e1 e2 e3
    refine ⟨u',r',?_⟩
    rcases q with ⟨k,e⟩|⟨k,c,e,z⟩
    ·refine .inl ⟨k,?_⟩
     have:y≠x:=λe=>Z (v9 hN e1 (e▸hi))
     simp [this,e]
    ·exact .inr ⟨k,c,e,z.sameBut B (Tq y c e)⟩
  ·obtain ⟨w',z⟩:=I.cell y c e
   exact ⟨w',z.sameBut B (Tq y c e)⟩
  ·obtain ⟨e,n,ne,nf,d⟩:=I.pin p hp
   exact ⟨(B.2 p.1 ne).trans e,n,ne,nf,d⟩
 ·have hfn:X.fn x=true:=by
   rcases hf with z|z
   ·exact z
   ·rw [z] at Y;cases Y
  obtain ⟨c,J⟩:=I.ok.has x (.inl Y)
  obtain ⟨w',z⟩:=I.cell x c J
  refine wpAny_storeName_cell I.ok.kind Y J z (λh' hc' B=>?_)
  obtain ⟨oc,hoc,abo⟩:=id z
  refine h { s with heap:=h' } ⟨I.ok,I.os,I.bare,⟨λb o e n hb O=>?_,λb o e n hb O=>?_,I.base.free,λb o e O=>?_,I.base.qg⟩,⟨m,hn.sameBut B (Ne.symm (Tq x c J)),λj y v' e1 e2 e3=>?_⟩,λy c' e=>?_,I.free,I.fc,λp hp=>?_,D ⟨oc,hoc,I.fc x c J⟩ B,by simpa using I.len⟩ ⟨c,B,.inr J⟩
  ·exact (B.2 b (zN (zK (zI e) (I.ok.cab x c hfn J)))).trans (I.base.keep b o e n hb O)
  ·obtain ⟨sl,e1⟩:=I.base.slot b o e n hb O
   exact ⟨sl,(B.2 b (zN (zK (zI e) (I.ok.cab x c hfn J)))).trans e1⟩
  ·obtain ⟨o',e1⟩:=I.base.there b o e O
   exact ⟨o',(B.2 b (zN (zK (zI e) (I.ok.cab x c hfn J)))).trans e1⟩
  ·by_cases Z:j=i
   ·subst Z
    rw [hi] at e1;cases e1
    rw [zM hiσ] at e2
    cases e2
    exact ⟨u,r,.inr ⟨.inl Y,c,J,hc'⟩⟩
   ·rw [zz (Ne.symm Z)] at e2
    obtain ⟨u',r',q⟩:=hl j y v' e1 e2 e3
    refine ⟨u',r',?_⟩
    rcases q with q|⟨k,c',e,z'⟩
    ·exact .inl q
    ·refine .inr ⟨k,c',e,z'.sameBut B ?_⟩
     rintro rfl
     exact Z (v9 hN e1 (I.ok.inj _ _ _ e J▸hi))
  ·by_cases hcc:c'=c
   ·subst hcc;exact ⟨_,hc'⟩
   ·obtain ⟨w2,z2⟩:=I.cell y c' e
    exact ⟨w2,z2.sameBut B hcc⟩
  ·obtain ⟨e,n,ne,nf,d⟩:=I.pin p hp
   refine ⟨(B.2 p.1 ?_).trans e,n,ne,nf,d⟩
   intro q
   rw [q,hoc] at e
   have q':oc=p.2:=yl e
   exact d w' (by rw [<-q'];exact abo)
theorem ql {M:Model} {A:Around} {E:Value->Shared->Prop} {i:Nat} {x:Str} {v:V} {u:Value} {Q:Unit->Shared->Prop} (I:Inv X pins σ H s) (hN:X.N.Nodup) (hi:X.N[i]? = some x) (n:Loc X.env.scope x) (r:RelV v u)
  (h:∀s',Inv X pins (σ.set i (some v)) H s'->Q () s') (hf:X.fn x=true\/X.env.scope.names.lookup x=some .local:=by first|exact .inl rfl|exact .inr rfl|assumption):wpAny M A (storeName X.env x u) Q E s:=
 sZ I hN hi n r (λs' z _=>h s' z) hf
theorem Inv.call' {s':Shared} {ch:List Addr} (I:Inv X pins σ H s) (z:s'.os=s.os) (u:Un (frs X.stack) ch H H' s.heap s'.heap) (hok:jE X.prog X.w H' s'.heap) (B:AllBare s'.gens)
  (n:∀b∈ch,FpX X pins b):Inv X pins σ H' s':=by
 obtain ⟨h',g',d',t',o'⟩:=s'
 have e:o'=s.os:=z
 subst e
 exact I.call (g':=g') (t':=t') (d':=d') u hok B n
end
abbrev XK:=Value->Option Addr->Hp->Prop
abbrev St:=List (Option V)
abbrev VK:=V->Hp->Prop
abbrev TE:=St->Hp->VK->Prop
abbrev TT:=St->Hp->(Bool->Hp->Prop)->Prop
abbrev TA:=St->Hp->(List V->Hp->Prop)->Prop
structure Ends where
 nx:St->Hp->Prop
 rt:VK
 bk:St->Hp->Prop:=λ_ _=>False
 ct:St->Hp->Prop:=λ_ _=>False
abbrev TS:=Ends->St->Hp->Prop
def EP (X:Cx) (n:List (Addr × Obj)) (z:St) (Q:VK) (u:Value) (s':Shared):Prop:=∃v H',Inv X n z H' s'/\RelV v u/\Q v H'
def TP (X:Cx) (n:List (Addr × Obj)) (z:St) (Q:Bool->Hp->Prop) (b:Bool) (s':Shared):Prop:=∃H',Inv X n z H' s'/\Q b H'
def AP (X:Cx) (n:List (Addr × Obj)) (z:St) (Q:List V->Hp->Prop) (us:List Value) (s':Shared):Prop:=∃vs H',Inv X n z H' s'/\Vals vs us/\Q vs H'
def SP (X:Cx) (n:List (Addr × Obj)) (D:Ends) (f:Flow) (s':Shared):Prop:=
 match f with
 | .next=>∃σ' H',Inv X n σ' H' s'/\D.nx σ' H'
 | .brk=>∃σ' H',Inv X n σ' H' s'/\D.bk σ' H'
 | .cont=>∃σ' H',Inv X n σ' H' s'/\D.ct σ' H'
 | .ret u=>∃v σ' H',Inv X n σ' H' s'/\RelV v u/\D.rt v H'
def PE (X:Cx) (e:Expr) (t:TE):Prop:=
 ∀(pins:List (Addr × Obj)) (s:Shared) (σ:St) (H:Hp) (Q:VK),Inv X pins σ H s->t σ H Q->wpAny (model X.prog X.w) X.A (eval e X.env) (EP X pins σ Q) X.xe s
def PT (X:Cx) (e:Expr) (t:TT):Prop:=
 ∀(pins:List (Addr × Obj)) (s:Shared) (σ:St) (H:Hp) (Q:Bool->Hp->Prop),Inv X pins σ H s->t σ H Q->wpAny (model X.prog X.w) X.A (isTrue e X.env (eval e X.env)) (TP X pins σ Q) X.xe s
def PW (X:Cx) (e:Expr) (t:TT):Prop:=
 ∀(n:Sem Value) (pins:List (Addr × Obj)) (s:Shared) (σ:St) (H:Hp) (Q:Bool->Hp->Prop),Inv X pins σ H s->t σ H Q->wpAny (model X.prog X.w) X.A (isTrue e X.env n) (TP X pins σ Q) X.xe s
theorem PW.pt (h:PW X e t):PT X e t:=h _
def PA (X:Cx) (es:List Expr) (t:TA):Prop:=
 ∀(pos:Pos) (pins:List (Addr × Obj)) (s:Shared) (σ:St) (H:Hp) (Q:List V->Hp->Prop),Inv X pins σ H s->t σ H Q->wpAny (model X.prog X.w) X.A (spliced (backTo pos (starEach es X.env))) (AP X pins σ Q) X.xe s
def PS (X:Cx) (st:Stmt) (t:TS):Prop:=
 ∀(pins:List (Addr × Obj)) (s:Shared) (σ:St) (H:Hp) (D:Ends),Inv X pins σ H s->t D σ H->wpAny (model X.prog X.w) X.A (exec st X.env) (SP X pins D) X.xe s
def fX (X:Cx) (st:List Stmt) (t:TS):Prop:=
 ∀(pins:List (Addr × Obj)) (s:Shared) (σ:St) (H:Hp) (D:Ends),Inv X pins σ H s->t D σ H->wpAny (model X.prog X.w) X.A (execs st X.env) (SP X pins D) X.xe s
theorem bh {α:Type} {t:Sem α} {Q n:α->Shared->Prop} {M:Model} {A:Around} {E:Value->Shared->Prop} {s:Shared} (h:wpAny M A t Q E s) (hQ:∀a s,Q a s->n a s):wpAny M A t n E s:=xo h hQ λ_ _ x=>x
section
variable {X:Cx}
def v_ (i:Nat):TE:=λσ H Q=>∃v,σ[i]? = some (some v)/\Q v H
def tC (v:V):TE:=λ_ H Q=>Q v H
theorem Tr (hN:X.N[i]? = some x) (J:Xy X.env.scope x) (hd:(x == ("__debug__":Str))=false:=by decide) (B:(x == ("__classdict__":Str))=false:=by decide):PE X (.Name x pos) (v_ i):=by
 intro pins s σ H Q I h
 obtain ⟨v,e,h⟩:=h
 obtain ⟨m,O,Y⟩:=I.loc
 obtain ⟨u,r,l⟩:=Y i x v hN e J
 have fin:EP X pins σ Q u s:=⟨v,H,I,r,h⟩
 rcases l with ⟨z,U⟩|⟨z,c,D,n⟩
 ·exact wpAny_Name (wpAny_loadName_local I.ok.kind z O U fin) hd
 ·rcases z with z|z
  ·exact wpAny_Name (wpAny_loadName_cell I.ok.kind z D n fin) hd
  ·exact wpAny_Name (wpAny_loadName_free I.ok.kind z D n fin B) hd
theorem Hr {i j pos}:PE X (.Constant (.int i) j pos) (tC (.int i)):=λ_ _ _ H _ I h=>wpAny_Constant_int ⟨.int i,H,I.tok _,⟨_,rfl⟩,h⟩
theorem cO {b j pos}:PE X (.Constant (.bool b) j pos) (tC (.bl b)):=λ_ _ _ H _ I h=>Constant_bool ⟨.bl b,H,I,rfl,h⟩
theorem ur {j pos}:PE X (.Constant .none j pos) (tC .non):=λ_ _ _ H _ I h=>Constant_none ⟨.non,H,I,rfl,h⟩
theorem Tt {x j pos}:PE X (.Constant (.str x) j pos) (tC (.str x)):=λ_ _ _ H _ I h=>Calls.Constant_str ⟨.str x,H,I.tok _,⟨_,rfl⟩,h⟩
def Gl (X:Cx) (x:Str):Prop:=X.env.kindOf x=some .globalImplicit
theorem jf (I:Inv X pins σ H s) (z:Gl X x) (n:X.mg x=some u) (h:Q u s)
  (hd:(x == ("__debug__":Str))=false:=by decide):wpAny (model X.prog X.w) X.A (eval (.Name x pos) X.env) Q E s:=
 Calls.Name_function_global I.ok.kind z (Calls.loadGlobal_global (by rw [I.ok.glob];exact I.mod.glob.keeps I.bk) n h) hd
theorem gm {E:Value->Shared->Prop} {n:List (Addr × Obj)} {s:Shared} {z:St} {H:Hp} {x:Str} {u:Value} {pos:Pos} {Q:Value->Shared->Prop} (I:Inv X n z H s) (O:Gl X x) (J:X.mg x=none) (B:bootBuiltins x=some u) (h:Q u s)
  (D:x≠"__name__":=by decide) (hd:(x == ("__debug__":Str))=false:=by decide):wpAny (model X.prog X.w) X.A (eval (.Name x pos) X.env) Q E s:=by
 obtain ⟨U,h1,h2⟩:=I.mod.blt
 exact Calls.Name_function_global I.ok.kind O (Calls.loadGlobal_builtin (by rw [I.ok.glob];exact I.mod.glob.keeps I.bk) J (by rw [I.ok.blt];exact h1.keeps I.bk) ((h2 x D).trans B) h) hd
theorem gV (z:Gl X x) (n:X.mg x=some u) (r:RelV v u) (hd:(x == ("__debug__":Str))=false:=by decide):PE X (.Name x pos) (tC v):=
 λ_ _ _ H _ I h=>jf I z n ⟨v,H,I,r,h⟩ hd
theorem uv (D:Gl X x) (B:X.mg x=none) (n:bootBuiltins x=some u) (r:RelV v u) (z:x≠"__name__":=by decide) (hd:(x == ("__debug__":Str))=false:=by decide):PE X (.Name x pos) (tC v):=
 λ_ _ _ H _ I h=>gm I D B n ⟨v,H,I,r,h⟩ z hd
variable {a b:Expr} {ta tb:TE} {pos:Pos}
def PC (X:Cx) (B:CmpOp) (a b:Expr) (t:TE):Prop:=
 ∀(pins:List (Addr × Obj)) (s:Shared) (σ:St) (H:Hp) (Q:VK),Inv X pins σ H s->t σ H Q->
  wpAny (model X.prog X.w) X.A (eval a X.env) (λv z=>wpAny (model X.prog X.w) X.A (eval b X.env) (λu n=>wpAny (model X.prog X.w) X.A (compareOp B v u) (EP X pins σ Q) X.xe n) X.xe z) X.xe s
theorem wg (b:Expr) {n:CmpOp} (h:n≠.In) (z:n≠.NotIn):behindInMarks n b=false:=by
 have e1:(n == CmpOp.In)=false:=by cases n<;>first|rfl|exact absurd rfl h
 have e2:(n == CmpOp.NotIn)=false:=by cases n<;>first|rfl|exact absurd rfl z
 cases b<;>simp [behindInMarks,e1,e2]
def abp (n:TE):TE:=λσ H Q=>n σ H λx H1=>Q (.bl (decide (x=.non))) H1
def X7 (n:TE):TE:=λσ H Q=>n σ H λx H1=>Q (.bl (!decide (x=.non))) H1
theorem RelV.wj (r:RelV x v):(v == Value.none)=decide (x=.non):=by
 cases x with
 | non=>cases r;rfl
 | bl _=>cases r;rfl
 | int _=>obtain ⟨t,rfl⟩:=r;rfl
 | str _=>obtain ⟨t,rfl⟩:=r;rfl
 | ref _=>cases r;rfl
 | ty _=>cases r;rfl
theorem Tu {j pos'} (B:PE X a ta):PC X .Is a (.Constant .none j pos') (abp ta):=by
 intro pins s σ H Q I h
 refine bh (B pins s σ H _ I h) λv J n=>?_
 obtain ⟨x,H1,D,z,q1⟩:=n
 exact Constant_none (is_none_gen ⟨.bl _,H1,D,by rw [z.wj];rfl,q1⟩)
theorem NT {j pos'} (B:PE X a ta):PC X .IsNot a (.Constant .none j pos') (X7 ta):=by
 intro pins s σ H Q I h
 refine bh (B pins s σ H _ I h) λv J n=>?_
 obtain ⟨x,H1,D,z,q1⟩:=n
 exact Constant_none (isnot_none_gen ⟨.bl _,H1,D,by rw [z.wj];rfl,q1⟩)
def tB (t:TE):TT:=λσ H Q=>t σ H λx H1=>∃c,x=.bl c/\Q c H1
theorem Tv (h:PC X op a b t) (z:behindInMarks op b=false:=by first|exact wg _ (by decide) (by decide)|rfl):PE X (.Compare a [op] [b] pos) t:=λpins s σ H Q I n=>wpAny_Compare1 (h pins s σ H Q I n) z
theorem Be {n:CmpOp} {t:TE} (h:PC X n a b t) (z:behindInMarks n b=false:=by first|exact wg _ (by decide) (by decide)|rfl):PT X (.Compare a [n] [b] pos) (tB t):=by
 intro pins s σ H Q I J
 refine wpAny_isTrue_Compare1 (bh (h pins s σ H _ I J) λv Z z=>bh z λu Y h2=>bh h2 λc U B=>?_) z
 obtain ⟨x,H1,O,D,q1⟩:=B
 obtain ⟨d,rfl,q⟩:=q1
 cases D
 exact yy ⟨H1,O,q⟩
theorem Tw {e : Expr} {t : TE} (h : PE X e t) (he : ∀ whole, isTrue e X.env whole = (do let v ← whole; standAt e.pos; holding [v] (truthy v)) := by intro _; rfl) : PT X e (tB t) := by
  intro pins s σ H Q I B
  refine isTrue_plain (bh (h pins s σ H _ I B) λv J n=>?_) (he _)
  obtain ⟨x, H1, D, z, q1⟩:=n
  obtain ⟨d, rfl, q⟩ := q1
  cases z
  exact yy ⟨H1, D, q⟩
variable {tA NZ:TT} {rest:List Expr}
def abq (t u:TT):TT:=λσ H Q=>t σ H λc H1=>if c=true then u σ H1 Q else Q false H1
def tOr (t u:TT):TT:=λσ H Q=>t σ H λc H1=>if c=true then Q true H1 else u σ H1 Q
def abr (t:TT):TT:=λσ H Q=>t σ H λc H1=>Q (!c) H1
theorem pw_and1 (n:PT X a tA):PW X (.BoolOp .And [a] pos) tA:=by
 intro z pins s σ H Q I h
 refine isTrue_and (bh (n pins s σ H Q I h) λc B e=>?_)
 cases c with
 | true=>exact isTrue_and_nil e
 | false=>exact e
theorem pw_or1 (n:PT X a tA):PW X (.BoolOp .Or [a] pos) tA:=by
 intro z pins s σ H Q I h
 refine isTrue_or (bh (n pins s σ H Q I h) λc B e=>?_)
 cases c with
 | false=>exact isTrue_or_nil e
 | true=>exact e
theorem pw_and (J:PT X a tA) (D:PW X (.BoolOp .And (b::rest) pos) NZ):PW X (.BoolOp .And (a::b::rest) pos) (abq tA NZ):=by
 intro z pins s σ H Q I h
 refine isTrue_and (bh (J pins s σ H _ I h) λc B ⟨H1,n,q1⟩=>?_)
 cases c with
 | true=>exact D z pins B σ H1 Q n q1
 | false=>exact ⟨H1,n,q1⟩
theorem pw_or (J:PT X a tA) (D:PW X (.BoolOp .Or (b::rest) pos) NZ):PW X (.BoolOp .Or (a::b::rest) pos) (tOr tA NZ):=by
 intro z pins s σ H Q I h
 refine isTrue_or (bh (J pins s σ H _ I h) λc B ⟨H1,n,q1⟩=>?_)
 cases c with
 | true=>exact ⟨H1,n,q1⟩
 | false=>exact D z pins B σ H1 Q n q1
theorem Tz (n:PT X a tA):PT X (.UnaryOp .Not a pos) (abr tA):=by
 intro pins s σ H Q I h
 exact isTrue_not (n pins s σ H (λc H1=>Q (!c) H1) I h)
def X8 (z n:TE):TE:=λσ H Q=>z σ H λx H1=>∃c,x=.bl c/\if c=true then n σ H1 Q else Q (.bl false) H1
def abt (z n:TE):TE:=λσ H Q=>z σ H λx H1=>∃c,x=.bl c/\if c=true then Q (.bl true) H1 else n σ H1 Q
def X_ (n:TE):TE:=λσ H Q=>n σ H λx H1=>∃c,x=.bl c/\Q (.bl (!c)) H1
theorem TF {op} (h:PE X a t):PE X (.BoolOp op [a] pos) t:=λpins s σ H Q I n=>BoolOp_one (h pins s σ H Q I n)
theorem TJ (O:PE X a ta) (J:PE X (.BoolOp .And (b::rest) pos) tb):PE X (.BoolOp .And (a::b::rest) pos) (X8 ta tb):=by
 intro pins s σ H Q I h
 refine BoolOp_and (bh (O pins s σ H _ I h) λv B z=>?_)
 obtain ⟨x,H1,n,D,q1⟩:=z
 obtain ⟨c,rfl,q1⟩:=q1
 cases D
 refine yy ?_
 cases c with
 | true=>exact J pins B σ H1 Q n q1
 | false=>exact ⟨.bl false,H1,n,rfl,q1⟩
theorem Yb (O:PE X a ta) (J:PE X (.BoolOp .Or (b::rest) pos) tb):PE X (.BoolOp .Or (a::b::rest) pos) (abt ta tb):=by
 intro pins s σ H Q I h
 refine BoolOp_or (bh (O pins s σ H _ I h) λv B z=>?_)
 obtain ⟨x,H1,n,D,q1⟩:=z
 obtain ⟨c,rfl,q1⟩:=q1
 cases D
 refine yy ?_
 cases c with
 | false=>exact J pins B σ H1 Q n q1
 | true=>exact ⟨.bl true,H1,n,rfl,q1⟩
theorem TV (B:PE X a ta):PE X (.UnaryOp .Not a pos) (X_ ta):=by
 intro pins s σ H Q I h
 refine UnaryOp_ (bh (B pins s σ H _ I h) λv J n=>?_)
 obtain ⟨x,H1,D,z,q1⟩:=n
 obtain ⟨c,rfl,q1⟩:=q1
 cases z
 exact not_of (yy ⟨.bl (!c),H1,D,rfl,q1⟩)
def tIf (t:TT) (z n:TE):TE:=λσ H Q=>t σ H λc H1=>if c=true then z σ H1 Q else n σ H1 Q
theorem Ht {c:Expr} (B:PT X c tA) (J:PE X a ta) (D:PE X b tb):PE X (.IfExp c a b pos) (tIf tA ta tb):=by
 intro pins s σ H Q I h
 refine wpAny_IfExp (bh (B pins s σ H _ I h) λd n ⟨H1,z,q1⟩=>?_)
 cases d with
 | true=>exact J pins n σ H1 Q z q1
 | false=>exact D pins n σ H1 Q z q1
end
def iI (K:PySem.W.Frag) (H:Hp) (a:Addr) (xs:List V):Prop:=
 Rd H a (.lst xs) \/
  ∃(o:Obj) (z:Array Value) (n:Nat),K.lookup a=some o/\o.cls=.type "list"/\o.dict=none/\o.data=.seq z n/\z.size<=sizeLine/\Vals xs z.toList
def Dq (K:PySem.W.Frag) (H:Hp) (a:Addr) (xs:List V):Prop:=
 Rd H a (.tup xs) \/
  ∃(o:Obj) (z:Array Value) (n:Nat),K.lookup a=some o/\o.cls=.type "tuple"/\o.data=.seq z n/\z.size<=sizeLine/\Vals xs z.toList
def abu:Value->Option V
 | .none=>some .non
 | .bool b=>some (.bl b)
 | .int i _=>some (.int i)
 | .str x _=>some (.str x)
 | .ref a=>some (.ref a)
 | .type n=>some (.ty n)
 | _=>none
theorem RelV.abs (r:RelV x u):abu u=some x:=by
 cases x with
 | non=>cases r;rfl
 | bl _=>cases r;rfl
 | int _=>obtain ⟨t,rfl⟩:=r;rfl
 | str _=>obtain ⟨t,rfl⟩:=r;rfl
 | ref _=>cases r;rfl
 | ty _=>cases r;rfl
theorem RelV.inj (r:RelV x u) (q:RelV y u):x=y:=yl (r.abs.symm.trans q.abs)
theorem Vals.inj:∀{xs ys:List V} {n:List Value},Vals xs n->Vals ys n->xs=ys
 | _,_,_,.nil,.nil=>rfl
 | _,_,_,.cons r t,.cons r' t'=>by rw [r.inj r',Vals.inj t t']
section
variable {X:Cx} {pins:List (Addr × Obj)} {σ:St} {H:Hp} {s:Shared} {a:Addr} {xs ys:List V}
theorem iI.of {K:PySem.W.Frag} (h:H a=some (.lst xs)):iI K H a xs:=.inl (.inl h)
theorem Dq.of {K:PySem.W.Frag} (h:H a=some (.tup xs)):Dq K H a xs:=.inl (.inl h)
theorem Inv.list (I:Inv X pins σ H s) (h:iI X.K H a xs):∃B:List Value,Vals xs B/\PlainL s.heap a B.toArray/\xs.length<=sizeLine:=by
 rcases h with h|⟨o,B,n,J,O,hd,D,U,r⟩
 ·obtain ⟨z,B,n,r,e⟩:=h.ok I.hok
  exact ⟨B,r,⟨_,n,e,rfl,rfl,rfl⟩,z⟩
 ·refine ⟨B.toList,r,⟨o,n,I.qj a o J,O,hd,by simpa using D⟩,?_⟩
  have e:=r.length
  simp only [xv] at e
  omega
theorem Inv.tuple (I:Inv X pins σ H s) (h:Dq X.K H a xs):∃B:List Value,Vals xs B/\IsTup s.heap a B.toArray/\xs.length<=sizeLine:=by
 rcases h with h|⟨o,B,n,J,O,D,U,r⟩
 ·obtain ⟨z,B,r,p⟩:=h.ok I.hok
  exact ⟨B,r,p,z⟩
 ·refine ⟨B.toList,r,⟨o,I.qj a o J,O,n,by simpa using D⟩,?_⟩
  have e:=r.length
  simp only [xv] at e
  omega
theorem Inv.qm (I:Inv X pins σ H s) (h:iI X.K H a xs) (h':iI X.K H a ys):xs=ys:=by
 obtain ⟨z,r,⟨o,n,e,_,_,d⟩,_⟩:=I.list h
 obtain ⟨its',J,⟨o',O,B,_,_,D⟩,_⟩:=I.list h'
 rw [e] at B;cases B
 rw [d] at D
 injection D with d1 _
 have:z=its':=by simpa using zV Array.toList d1
 subst this
 exact r.inj J
theorem Inv.Fx (I:Inv X pins σ H s) (h:Dq X.K H a xs) (h':Dq X.K H a ys):xs=ys:=by
 obtain ⟨z,r,⟨o,e,_,n,d⟩,_⟩:=I.tuple h
 obtain ⟨its',J,⟨o',B,_,O,D⟩,_⟩:=I.tuple h'
 rw [e] at B;cases B
 rw [d] at D
 injection D with d1 _
 have:z=its':=by simpa using zV Array.toList d1
 subst this
 exact r.inj J
end
abbrev Cx.wish (X:Cx) (E:Value->Shared->Prop):Cx:={ X with xe:=E }
abbrev Cx.RB (X:Cx):Cx:=X.wish λ_ _=>False
theorem Cx.Ok.wish {X:Cx} (ok:X.Ok) (E:Value->Shared->Prop):(X.wish E).Ok:=
 ⟨ok.mod,ok.kind,ok.glob,ok.blt,ok.above,ok.inj,ok.has,ok.cab,ok.hd,ok.frames,ok.stk,ok.Tp,ok.bs,ok.Fv,ok.sG,ok.uo,ok.jF,ok.G9⟩
theorem Cx.Ok.jG {X:Cx} (ok:(X.wish E).Ok):X.Ok:=
 ⟨ok.mod,ok.kind,ok.glob,ok.blt,ok.above,ok.inj,ok.has,ok.cab,ok.hd,ok.frames,ok.stk,ok.Tp,ok.bs,ok.Fv,ok.sG,ok.uo,ok.jF,ok.G9⟩
section
variable {X:Cx} {pins:List (Addr × Obj)} {σ:St} {H:Hp} {s:Shared} {E:Value->Shared->Prop}
theorem Inv.wish (I:Inv X pins σ H s) (E:Value->Shared->Prop):Inv (X.wish E) pins σ H s:=⟨I.ok.wish E,I.os,I.bare,I.base,I.loc,I.cell,I.free,I.fc,I.pin,I.hok,I.len⟩
theorem Inv.jG (I:Inv (X.wish E) pins σ H s):Inv X pins σ H s:=⟨I.ok.jG,I.os,I.bare,I.base,I.loc,I.cell,I.free,I.fc,I.pin,I.hok,I.len⟩
theorem SP.jG {D:Ends} (h:SP (X.wish E) pins D f s'):SP X pins D f s':=by
 cases f with
 | next=>obtain ⟨σ',H',I,q⟩:=h;exact ⟨σ',H',I.jG,q⟩
 | brk=>obtain ⟨σ',H',I,q⟩:=h;exact ⟨σ',H',I.jG,q⟩
 | cont=>obtain ⟨σ',H',I,q⟩:=h;exact ⟨σ',H',I.jG,q⟩
 | ret u=>obtain ⟨v,σ',H',I,r,q⟩:=h;exact ⟨v,σ',H',I.jG,r,q⟩
theorem fX.RB {st:List Stmt} {t:TS} (h:fX X.RB st t):fX X st t:=λpins s σ H D I n=>
 xo (h pins s σ H D (I.wish _) n) (λ_ _ q=>q.jG) λ_ _ z=>False.elim z
end
section
variable {X:Cx} {st:Stmt} {rest:List Stmt} {t u:TS} {e:Expr} {te:TE} {pos:Pos}
def Yc:TS:=λD σ H=>D.nx σ H
def abv (t u:TS):TS:=λD σ H=>t { D with nx:=u D } σ H
theorem uw:fX X [] Yc:=λ_ _ σ H _ I h=>xH ⟨σ,H,I,h⟩
theorem wk (B:PS X st t) (z:fX X rest u):fX X (st::rest) (abv t u):=by
 intro pins s σ H D I h
 refine wpAny_execs_cons (bh (B pins s σ H { D with nx:=u D } I h) λf n q=>?_)
 cases f with
 | next=>
  obtain ⟨σ',H',J,q⟩:=q
  exact z pins n σ' H' D J q
 | ret v=>exact q
 | brk=>exact q
 | cont=>exact q
theorem Dr (n:PS X st t):fX X [st] t:=by
 intro pins s σ H D I h
 refine wpAny_execs_cons (bh (n pins s σ H D I h) λf z q=>?_)
 cases f with
 | next=>exact xH q
 | ret v=>exact q
 | brk=>exact q
 | cont=>exact q
theorem Inv.quiet (I:Inv X pins σ H s):interactive X.env=false:=by simp [interactive,I.ok.kind]
def Yd (n:TE):TS:=λD σ H=>n σ H λ_ H1=>D.nx σ H1
theorem Ds (he:PE X e te) (z:swapsWith e none pos.line X.env=pure false:=by rfl):PS X (.Expr e pos) (Yd te):=by
 intro pins s σ H D I h
 exact wpAny_Expr_any (bh (he pins s σ H _ I h) λv J n=>by obtain ⟨x,H1,B,O,q1⟩:=n;exact ⟨σ,H1,B,q1⟩) I.quiet z
def abw (n:TE):TS:=λD σ H=>n σ H D.rt
theorem Hu (he:PE X e te):PS X (.Return (some e) pos) (abw te):=by
 intro pins s σ H D I h
 exact wpAny_Return_some (bh (he pins s σ H _ I h) λv J n=>by obtain ⟨x,H1,B,z,q1⟩:=n;exact ⟨x,σ,H1,B,z,q1⟩)
def abx (c:TT) (t u:TS):TS:=λD σ H=>c σ H λb H1=>if b=true then t D σ H1 else u D σ H1
theorem Hv {c:Expr} {a b:List Stmt} {n:TT} (J:PT X c n) (U:fX X a t) (O:fX X b u):PS X (.If c a b pos) (abx n t u):=by
 intro pins s σ H D I h
 refine wpAny_If (bh (J pins s σ H _ I h) λd z ⟨H1,B,q1⟩=>?_)
 cases d with
 | true=>exact U pins z σ H1 D B q1
 | false=>exact O pins z σ H1 D B q1
end
abbrev TG:=V->St->Hp->(St->Hp->Prop)->Prop
abbrev N5:=List V->St->Hp->(St->Hp->Prop)->Prop
def PG (X:Cx) (n:Expr) (t:TG):Prop:=
 ∀(pins:List (Addr × Obj)) (s:Shared) (σ:St) (H:Hp) (v:V) (u:Value) (Q:St->Hp->Prop),Inv X pins σ H s->RelV v u->t v σ H Q->
  wpAny (model X.prog X.w) X.A (assign n X.env u) (λ_ s'=>∃σ' H',Inv X pins σ' H' s'/\Q σ' H') X.xe s
def ux (X:Cx) (ts:List Expr) (t:N5):Prop:=
 ∀(pins:List (Addr × Obj)) (s:Shared) (σ:St) (H:Hp) (vs:List V) (us:List Value) (Q:St->Hp->Prop),Inv X pins σ H s->Vals vs us->t vs σ H Q->
  wpAny (model X.prog X.w) X.A (assignInOrder ((assignEach ts X.env).map (·.2)) us) (λ_ s'=>∃σ' H',Inv X pins σ' H' s'/\Q σ' H') X.xe s
abbrev Hw:=V->V->V->Hp->(Hp->Prop)->Prop
def TY (X:Cx) (t:Hw):Prop:=
 ∀(pins:List (Addr × Obj)) (s:Shared) (σ:St) (H:Hp) (o i v:V) (ov iv u:Value) (Q:Hp->Prop),Inv X pins σ H s->RelV o ov->RelV i iv->RelV v u->t o i v H Q->
  wpAny (model X.prog X.w) X.A (setItem ov iv u) (λ_ s'=>∃H',Inv X pins σ H' s'/\Q H') X.xe s
abbrev Xz:=V->V->Hp->VK->Prop
def Ye (X:Cx) (n:Operator) (t:Xz):Prop:=
 ∀(pins:List (Addr × Obj)) (s:Shared) (σ:St) (H:Hp) (x y:V) (v u:Value) (Q:VK),Inv X pins σ H s->RelV x v->RelV y u->t x y H Q->
  wpAny (model X.prog X.w) X.A (inplaceOp n v u) (EP X pins σ Q) X.xe s
section
variable {X:Cx} {pos:Pos}
def wu (i:Nat):TG:=λv σ H Q=>Q (σ.set i (some v)) H
theorem Dt (hN:X.N.Nodup) (hi:X.N[i]? = some x) (n:Loc X.env.scope x) (hf:X.fn x=true\/X.env.scope.names.lookup x=some .local:=by first|exact .inl rfl|exact .inr rfl|assumption):PG X (.Name x pos) (wu i):=by
 intro pins s σ H v u Q I r h
 exact wpAny_assign_Name (ql I hN hi n r (λs' z=>⟨_,H,z,h⟩) hf)
def aby:N5:=λvs σ H Q=>vs=[]/\Q σ H
def Yg (t:TG) (u:N5):N5:=λvs σ H Q=>∃v r,vs=v::r/\t v σ H λσ' H'=>u r σ' H' Q
theorem uy:ux X [] aby:=by
 intro pins s σ H vs n Q I r h
 obtain ⟨e,h⟩:=h
 subst e
 cases r
 exact assignInOrder_nil ⟨σ,H,I,h⟩
theorem wA {e:Expr} {es:List Expr} {t:TG} {u:N5} (O:PG X e t) (J:ux X es u)
  (D:(assignEach (e::es) X.env).map (·.2)=assign e X.env::(assignEach es X.env).map (·.2):=by rfl):ux X (e::es) (Yg t u):=by
 intro pins s σ H vs Z Q I r h
 obtain ⟨v,Y,e1,h⟩:=h
 subst e1
 cases r with
 | cons r rr=>
  rw [D]
  refine assignInOrder_cons (bh (O pins s σ H _ _ _ I r h) λ_ B z=>?_)
  obtain ⟨n,H1,U,q1⟩:=z
  exact J pins B n H1 _ _ Q U rr q1
def Yh (K:PySem.W.Frag) (n:Nat) (t:N5):TG:=λv σ H Q=>∃a xs,v=.ref a/\Dq K H a xs/\xs.length=n/\t xs σ H Q
theorem T3 {k:Nat} (hc:X.calm=true) (h:ux X es t)
  (Z:(assignEach es X.env).length=n:=by rfl) (B:(assignEach es X.env).findIdx? (·.1)=none:=by rfl):PG X (.Tuple es k pos) (Yh X.K n t):=by
 intro pins s σ H v u Q I r z
 obtain ⟨a,xs,e1,Y,hl,z⟩:=z
 subst e1
 cases r
 obtain ⟨J,D,U,hz⟩:=I.tuple Y
 refine assign_Tuple_tuple (I.ok.hd hc) U (by simp [Z,<-hl,D.length]) B λh' O=>?_
 have I1:Inv X pins σ H { s with heap:=h' }:=I.kept (t':=s.toks) λb o e=>O b o (zN (zI e)) e
 exact h pins _ σ H xs _ Q I1 (by simpa using D) z
def abz (n ti:TE) (t:Hw):TG:=λv σ H Q=>n σ H λo H1=>ti σ H1 λi H2=>t o i v H2 λz=>Q σ z
theorem Hx {o i : Expr} {D ti : TE} {t : Hw} (ho : PE X o D) (hi : PE X i ti) (hs : TY X t)
    (ha : ∀ v, assign (.Subscript o i pos) X.env v = (do
      let n ← holding [v] (eval o X.env)
      let B ← holding [v, n] (eval i X.env)
      standAt pos
      holding [v, n, B] (setItem n B v)
      release [v, n, B] []) := by intro _; rfl) : PG X (.Subscript o i pos) (abz D ti t) := by
  intro pins s σ H v u Q I r h
  rw [ha]
  refine zh (yb (bh (ho pins s σ H _ I h) λn O z=>?_))
  obtain ⟨x, H1, I1, Y, q1⟩:=z
  refine zh (yb (bh (hi pins O σ H1 _ I1 q1) λB J z=>?_))
  obtain ⟨y, H2, I2, U, q2⟩:=z
  refine zh (xy (zh (yb (bh (hs pins J σ H2 x y v n B u _ I2 Y U r q2) λ_ s3 z=>?_))))
  obtain ⟨H3, I3, Z⟩:=z
  exact wpAny_release ⟨σ, H3, I3, Z⟩
def Hy (n:TE) (g:TG):TS:=λD σ H=>n σ H λx H1=>g x σ H1 D.nx
theorem Bf {n e:Expr} {z:TE} {g:TG} (he:PE X e z) (Z:PG X n g) (Y:swapsWithSole [n] e pos.line X.env=pure false:=by rfl) (U:swappedStores [n] e X.env=pure none:=by rfl)
  (h1:(assignEach [n] X.env).map (·.2)=[assign n X.env]:=by rfl):PS X (.Assign [n] e pos) (Hy z g):=by
 intro pins s σ H D I h
 refine wpAny_Assign_stores (bh (he pins s σ H _ I h) λv J B=>?_) Y U
 obtain ⟨x,H1,I1,O,q1⟩:=B
 rw [h1]
 exact bh (Z pins J σ H1 x v _ I1 O q1) λ_ s2 q=>q
theorem Bg {i:Nat} {x:Str} {e:Expr} {z:TE} {n:Pos} (hN:X.N.Nodup) (hi:X.N[i]? = some x) (O:Loc X.env.scope x) (he:PE X e z) (U:swapsWith e (some (.Name x n)) pos.line X.env=pure false:=by rfl) (hf:X.fn x=true\/X.env.scope.names.lookup x=some .local:=by first|exact .inl rfl|exact .inr rfl|assumption) :
  PS X (.Assign [.Name x n] e pos) (Hy z (wu i)):=by
 intro pins s σ H D I h
 refine wpAny_Assign_Name (bh (he pins s σ H _ I h) λv s1 B=>?_) U
 obtain ⟨y,H1,Z,J,q1⟩:=B
 exact ql Z hN hi O J (λs2 Y=>⟨_,H1,Y,q1⟩) hf
def abA (i:Nat) (n:TE) (ti:Xz):TS:=λD σ H=>∃x,σ[i]? = some (some x)/\n σ H λy H1=>ti x y H1 λz H2=>D.nx (σ.set i (some z)) H2
theorem T4 {i:Nat} {x:Str} {e:Expr} {te:TE} {op:Operator} {ti:Xz} {U:Pos} (hN:X.N.Nodup) (hi:X.N[i]? = some x) (hx:Loc X.env.scope x) (he:PE X e te) (ho:Ye X op ti) (hf:X.fn x=true\/X.env.scope.names.lookup x=some .local:=by first|exact .inl rfl|exact .inr rfl|assumption) :
  PS X (.AugAssign (.Name x U) op e pos) (abA i te ti):=by
 intro pins s σ H D I h
 obtain ⟨v,e1,h⟩:=h
 obtain ⟨m,hn,hl⟩:=I.loc
 have Z:Xy X.env.scope x:=by rcases hx with k|k;exact .inl k;exact .inr (.inl k)
 obtain ⟨u,r,l⟩:=hl i x v hi e1 Z
 refine wpAny_AugAssign_Name ?_
 have go:wpAny (model X.prog X.w) X.A (eval e X.env) (λw O=>wpAny (model X.prog X.w) X.A (inplaceOp op u w) (λr J=>wpAny (model X.prog X.w) X.A (storeName X.env x r) (λ_=>SP X pins D .next) X.xe J) X.xe O) X.xe s:=by
  refine bh (he pins s σ H _ I h) λw s1 Y=>?_
  obtain ⟨y,H1,I1,r1,q1⟩:=Y
  refine bh (ho pins s1 σ H1 v y u w _ I1 r r1 q1) λz s2 Y=>?_
  obtain ⟨zv,H2,I2,r2,q2⟩:=Y
  exact ql I2 hN hi hx r2 (λs3 I3=>⟨_,H2,I3,q2⟩) hf
 rcases l with ⟨n,hm⟩|⟨n,c,hc,B⟩
 ·exact wpAny_loadName_local I.ok.kind n hn hm go
 ·rcases n with n|n
  ·exact wpAny_loadName_cell I.ok.kind n hc B go
  ·rcases hx with k|k
   ·have:X.env.scope.names.lookup x=some .free:=n
    rw [k] at this;cases this
   ·have:X.env.scope.names.lookup x=some .free:=n
    rw [k] at this;cases this
def Yi (J ti O:TE) (B:V->V->Hp->VK->Prop) (I:Xz) (n:Hw):TS:=λD σ H=>J σ H λo H1=>ti σ H1 λi H2=>B o i H2 λx H3=>O σ H3 λy Z=>I x y Z λz Y=>n o i z Y λU=>D.nx σ U
def Yj (X:Cx) (t:V->V->Hp->VK->Prop):Prop:=
 ∀(pins:List (Addr × Obj)) (s:Shared) (σ:St) (H:Hp) (o i:V) (ov iv:Value) (Q:VK),Inv X pins σ H s->RelV o ov->RelV i iv->t o i H Q->
  wpAny (model X.prog X.w) X.A (getItem ov iv) (EP X pins σ Q) X.xe s
theorem N7 {o i e : Expr} {to ti te : TE} {B : V → V → Hp → VK → Prop} {Y : Xz} {z : Hw} {op : Operator} {U : Pos} (ho : PE X o to) (hi : PE X i ti) (hg : Yj X B) (he : PE X e te) (hp : Ye X op Y) (hs : TY X z)
    (ha : ∀ J O new, augStore i J O new = (do holding [new, J, O] (setItem J O new); release [new, J, O] []; pure .next) := by intros; rfl) : PS X (.AugAssign (.Subscript o i U) op e pos) (Yi to ti te B Y z) := by
  intro pins s σ H D I h
  refine wpAny_AugAssign_SubscriptAny (bh (ho pins s σ H _ I h) λJ s1 n=>?_) ha
  obtain ⟨x1, H1, I1, r1, q1⟩:=n
  refine bh (hi pins s1 σ H1 _ I1 q1) λO s2 n=>?_
  obtain ⟨x2, H2, I2, r2, q2⟩:=n
  refine bh (hg pins s2 σ H2 x1 x2 J O _ I2 r1 r2 q2) λZ s3 n=>?_
  obtain ⟨x3, H3, I3, r3, q3⟩:=n
  refine bh (he pins s3 σ H3 _ I3 q3) λv s4 n=>?_
  obtain ⟨x4, H4, I4, r4, q4⟩:=n
  refine bh (hp pins s4 σ H4 x3 x4 Z v _ I4 r3 r4 q4) λnew s5 n=>?_
  obtain ⟨x5, H5, I5, r5, q5⟩:=n
  exact bh (hs pins s5 σ H5 x1 x2 x5 J O new _ I5 r1 r2 r5 q5) λ_ s6 ⟨H6, I6, q6⟩ => ⟨σ, H6, I6, q6⟩
def ipI (f:Int->Int->Int):Xz:=λx y H Q=>∃i j,x=.int i/\y=.int j/\Q (.int (f i j)) H
theorem T5:Ye X .Add (ipI λi j=>i+j):=by
 intro pins s σ H x y v u Q I z n h
 obtain ⟨i,j,e1,e2,q⟩:=h
 subst e1;subst e2
 obtain ⟨t,rfl⟩:=z
 obtain ⟨B,rfl⟩:=n
 exact iadd_int ⟨.int _,H,I.tok _,⟨_,rfl⟩,q⟩
theorem T6:Ye X .Sub (ipI λi j=>i - j):=by
 intro pins s σ H x y v u Q I z n h
 obtain ⟨i,j,e1,e2,q⟩:=h
 subst e1;subst e2
 obtain ⟨t,rfl⟩:=z
 obtain ⟨B,rfl⟩:=n
 exact isub_int ⟨.int _,H,I.tok _,⟨_,rfl⟩,q⟩
end
section
variable {X:Cx} {pos:Pos}
def T7 (c:TT) (z:TS):TS:=λD σ H=>∃W:Nat->St->Hp->Prop,(∃m,W m σ H)/\∀m σ H,W m σ H->
 c σ H λb H1=>if b=true then ∃N:St->Hp->Prop,(∀σ' H',N σ' H'->∃n,n<m/\W n σ' H')/\z { D with nx:=N,ct:=N,bk:=D.nx } σ H1 else D.nx σ H1
theorem wB {c:Expr} {body:List Stmt} {tc:TT} {tb:TS} (hp:PassesOwn (model X.prog X.w) X.A X.env X.xe) (hc:PT X c tc) (hb:fX X body tb):PS X (.While c body [] pos) (T7 tc tb):=by
 intro pins s σ H D I h
 obtain ⟨W,⟨m0,w0⟩,turn⟩:=h
 refine wpAny_While (codeAny_whileLoop (λn s'=>∃σ' H',Inv X pins σ' H' s'/\W n σ' H') ?_ m0 ⟨σ,H,I,w0⟩)
 rintro n s1 ⟨B,H1,I1,w1⟩
 refine xl hp (bh (hc pins s1 B H1 _ I1 (turn n B H1 w1)) λb s2 ⟨H2,I2,q2⟩=>?_)
 cases b with
 | true=>
  obtain ⟨N,hN,q2⟩:=q2
  rw [zo rfl]
  refine xl hp (bh (hb pins s2 B H2 _ I2 q2) λf s3 O=>?_)
  cases f with
  | next=>
   obtain ⟨z,J,I3,n3⟩:=O
   obtain ⟨Y,Z,U⟩:=hN z J n3
   exact ⟨Y,Z,z,J,I3,U⟩
  | cont=>
   obtain ⟨z,J,I3,n3⟩:=O
   obtain ⟨Y,Z,U⟩:=hN z J n3
   exact ⟨Y,Z,z,J,I3,U⟩
  | brk=>exact O
  | ret v=>exact O
 | false=>
  rw [zi yg]
  exact xH ⟨B,H2,I2,q2⟩
end
structure It where
 go:Nat->Hp->Prop
 RC:Nat->Hp->V->Hp->Prop
 stop:Nat->Hp->Prop
theorem Inv.T8 {B:Hp} {s:Shared} (I:Inv X pins σ H s) (n:s.heap.objs.size<=b) (J:B b=none):mG X pins B b:=by
 refine ⟨J,Nat.ne_of_gt (zK I.lt n),I.X6 n,.inr (Heap.get?_none_of_le (yi I.sz n)),λx c e z=>?_,λp D z=>?_⟩
 ·obtain ⟨v,q⟩:=I.cell x c e
  exact absurd (zK q.lt (by rw [z];exact n)) (xx _)
 ·exact absurd (zK (zI (I.pin p D).1) (by rw [z];exact n)) (xx _)
structure Turn (P:Program) (w:World) (K:PySem.W.Frag) (tg:Expr) (J:It) (fp:List Addr) (it:Addr) (tn:Nat->Heap->Prop):Prop where
 mem:it∈fp
 obj:∀i h,tn i h->∀b∈fp,∃o,h.get? b=some o/\∀v,o.data≠.cell v
 keep:∀i h h',tn i h->(∀b∈fp,∀o,h.get? b=some o->h'.get? b=some o)->tn i h'
 item:∀(X:Cx),X.prog=P->X.w=w->X.K=K->X.calm=true->∀(i:Nat) (pins:List (Addr × Obj)) (s:Shared) (σ:St) (H:Hp) (E:Value->Shared->Prop),Inv X pins σ H s->(∀b∈fp,mG X pins H b)->tn i s.heap->J.go i H->
  wpAny (model P w) X.A (pyNext (.ref it)) (λr s1=>∃u,r=some u /\
   wpAny (model P w) X.A (letOwnedTupleGo tg (.ref it) u) (λ_ s2=>∃x H',Inv X pins σ H' s2/\RelV x u/\J.RC i H x H'/\tn (i+1) s2.heap/\∀b∈fp,H' b=none) E s1) E s
 done:∀(X:Cx),X.prog=P->X.w=w->X.K=K->X.calm=true->∀(i:Nat) (pins:List (Addr × Obj)) (s:Shared) (σ:St) (H:Hp) (E:Value->Shared->Prop),Inv X pins σ H s->(∀b∈fp,mG X pins H b)->tn i s.heap->J.stop i H->
  wpAny (model P w) X.A (pyNext (.ref it)) (λr s1=>r=none/\Inv X pins σ H s1) E s
 self:∀(A:Around) (i:Nat) (s:Shared) (Q:Value->Shared->Prop) (E:Value->Shared->Prop),tn i s.heap->Q (.ref it) s->wpAny (model P w) A (pyIter (.ref it)) Q E s
abbrev TI:=St->Hp->(It->Hp->Prop)->Prop
def PIE (X:Cx) (n:List (Addr × Obj)) (O:St) (U:Expr) (R:It->Hp->Prop) (z:Value) (D:Shared):Prop:=
 ∃(I:Addr) (fp:List Addr) (B:Nat->Heap->Prop) (J:It) (H':Hp),z=.ref I/\Inv X n O H' D/\Turn X.prog X.w X.K U J fp I B/\B 0 D.heap/\(∀b∈fp,mG X n H' b)/\R J H'
def PI (X:Cx) (B n:Expr) (z:TI):Prop:=
 ∀(pins:List (Addr × Obj)) (s:Shared) (σ:St) (H:Hp) (R:It->Hp->Prop),Inv X pins σ H s->z σ H R->
  wpAny (model X.prog X.w) X.A (eval n X.env) (λv D=>wpAny (model X.prog X.w) X.A (pyIter v) (PIE X pins σ B R) X.xe D) X.xe s
abbrev T9:List String:=["enumerate","zip","dict_itemiterator","dict_reverseitemiterator","odict_iterator","itertools.zip_longest","itertools.pairwise"]
theorem Yk {M : Model} {A : Around} {E : Value → Shared → Prop} {s : Shared} {z : Expr} {B : Addr} {u : Value} {o : Obj} {n : String} {vs : Array Value} {Q : Unit → Shared → Prop} (D : s.heap.get? B = some o) (J : o.cls = .type n) (hd : o.data = .fields vs)
    (I : T9.contains n = false) (hQ : Q () s) : wpAny M A (letOwnedTupleGo z (.ref B) u) Q E s := by
  unfold letOwnedTupleGo
  cases z <;> first
    | exact zG hQ
    | (cases u <;> first
        | exact zG hQ
        | (refine zh (wpAny_load D ?_)
           rw [J, hd]
           show wpAny M A (if (T9.contains n && vs[0]? == some (rawInt _)) = true then _ else _) Q E s
           rw [zi (by intro h; rw [I, Bool.false_and] at h; cases h)]
           exact zG hQ))
def Itl (K:PySem.W.Frag) (a:Addr):It:=
 ⟨λi H=>∃xs x,iI K H a xs/\xs[i]? = some x,λi H x H'=>H'=H/\∀xs,iI K H a xs->xs[i]? = some x,λi H=>∃xs,iI K H a xs/\xs.length<=i⟩
def XC (lo d:Int) (n:Nat):It:=⟨λi _=>i<n,λi H x H'=>H'=H/\x=.int (lo+i * d),λi _=>n<=i⟩
theorem mH {P:Program} {w:World} {K:PySem.W.Frag} {tg:Expr} {J:It} {B:Addr} {D:Nat->Heap->Prop} {n:String} (hn:T9.contains n=false) (obj:∀i h,D i h->∃o vs,h.get? B=some o/\o.cls=.type n/\o.data=.fields vs)
  (keep:∀i h h',D i h->(∀o,h.get? B=some o->h'.get? B=some o)->D i h')
  (item:∀(X:Cx),X.prog=P->X.w=w->X.K=K->X.calm=true->∀(i:Nat) (pins:List (Addr × Obj)) (s:Shared) (σ:St) (H:Hp) (E:Value->Shared->Prop) (Q:Option Value->Shared->Prop),Inv X pins σ H s->D i s.heap->J.go i H->
   (∀u x h' tk,RelV x u->J.RC i H x H->D (i+1) h'->(∀b o,b≠B->s.heap.get? b=some o->h'.get? b=some o)->Q (some u) { s with heap:=h',toks:=tk })->wpAny (model P w) X.A (pyNext (.ref B)) Q E s)
  (done:∀(X:Cx),X.prog=P->X.w=w->X.K=K->X.calm=true->∀(i:Nat) (pins:List (Addr × Obj)) (s:Shared) (σ:St) (H:Hp) (E:Value->Shared->Prop) (Q:Option Value->Shared->Prop),Inv X pins σ H s->D i s.heap->J.stop i H->
   (∀h',(∀b o,b≠B->s.heap.get? b=some o->h'.get? b=some o)->Q none { s with heap:=h' })->wpAny (model P w) X.A (pyNext (.ref B)) Q E s)
  (self:∀(A:Around) (i:Nat) (s:Shared) (Q:Value->Shared->Prop) (E:Value->Shared->Prop),D i s.heap->Q (.ref B) s->wpAny (model P w) A (pyIter (.ref B)) Q E s):Turn P w K tg J [B] B D where
 mem:=zD.mpr rfl
 obj:=λi h st b hb=>by
  obtain ⟨o,vs,e,_,d⟩:=obj i h st
  rw [zD.mp hb]
  exact ⟨o,e,λv z=>by rw [d] at z;cases z⟩
 keep:=λi h h' st k=>keep i h h' st (k B (zD.mpr rfl))
 item:=λX hP U hK Z i pins s σ H E I hf st Y=>item X hP U hK Z i pins s σ H E _ I st Y λu x h' tk r y O k=>by
  obtain ⟨o,vs,e,c,d⟩:=obj _ _ O
  exact ⟨u,rfl,Yk (s:={ s with heap:=h',toks:=tk }) e c d hn ⟨x,H,I.turned (hf B (zD.mpr rfl)) k,r,y,O,λb hb=>(hf b hb).1⟩⟩
 done:=λX hP U hK Z i pins s σ H E I hf st Y=>done X hP U hK Z i pins s σ H E _ I st Y λh' k=>⟨rfl,I.turned (t':=s.toks) (hf B (zD.mpr rfl)) k⟩
 self:=self
theorem Fy {P:Program} {w:World} {K:PySem.W.Frag} {tg:Expr} (a O:Addr):Turn P w K tg (Itl K a) [O] O (λi h=>h.IsListIter O a i):=
 mH (n:="list_iterator") (by decide) (λi h st=>by obtain ⟨o,e,c,d⟩:=st;exact ⟨o,_,e,c,d⟩) (λi h h' st k=>st.at k)
  (λX hP Y hK hc i pins s σ H E Q I st Z q=>by
   subst hP Y hK
   obtain ⟨xs,x,z,U⟩:=Z
   obtain ⟨J,D,p,hz⟩:=I.list z
   obtain ⟨u,hu,ru⟩:=D.get U
   exact wpAny_pyNext_list_item st p.isList (x:=u) (by simpa using hu) λh' B sb=>q u x h' s.toks ru ⟨rfl,λys hy=>by rw [I.qm hy z];exact U⟩ B λb o hb e=>(sb.2 b hb).trans e)
  (λX hP Y hK hc i pins s σ H E Q I st Z q=>by
   subst hP Y hK
   obtain ⟨xs,z,U⟩:=Z
   obtain ⟨J,D,p,hz⟩:=I.list z
   have hl:=D.length
   exact wpAny_pyNext_list_end (I.ok.hd hc) st p.isList (by simp;omega) q)
  λ_ _ _ _ _ st h=>wpAny_pyIter_listiter st h
theorem qp {P:Program} {w:World} {K:PySem.W.Frag} {Z:Expr} (z:Addr) (lo d:Int) (n:Nat):Turn P w K Z (XC lo d n) [z] z (λi h=>IsRangeIter h z (lo+(i:Nat) * d) ((n:Int) - (i:Nat)) d):=
 mH (n:="range_iterator") (by decide) (λi h st=>⟨_,_,st,rfl,rfl⟩) (λi h h' st k=>k _ st)
  (λX U D Y O i pins s σ H E Q I st J q=>by
   subst U D Y
   refine (Walks.range (prog:=X.prog) (w:=X.w) (I.ok.hd O) z lo d n).item i s _ _ J st λv h' tk hv B kk=>?_
   obtain ⟨t,rfl⟩:=hv
   exact q _ (.int (lo+i * d)) h' tk ⟨t,rfl⟩ ⟨rfl,rfl⟩ B λb o hb e=>kk b o (by simpa using hb) e)
  (λX U D Y O i pins s σ H E Q I st J q=>by
   subst U D Y
   exact wpAny_pyNext_range_end (I.ok.hd O) st (by have:n<=i:=J;omega) q)
  λ_ _ _ _ _ st h=>wpAny_pyIter_rangeiter st h
section
variable {X:Cx} {tg:Expr}
def RD (K:PySem.W.Frag) (n:TE):TI:=λσ H R=>n σ H λx H1=>∃a,x=.ref a/\(∃xs,iI K H1 a xs)/\R (Itl K a) H1
theorem Hz {n:List (Addr × Obj)} {z:St} {H:Hp} {s:Shared} {o:Obj} {t:Nat} {B:Addr->Nat->Heap->Prop} {J:It} {R:It->Hp->Prop} (I:Inv X n z H s) (T:∀it,Turn X.prog X.w X.K tg J [it] it (B it)) (st:B s.heap.objs.size 0 (s.heap.push o)) (q:R J H) :
  PIE X n z tg R (.ref s.heap.objs.size) { s with heap:=s.heap.push o,toks:=t }:=
 ⟨_,[s.heap.objs.size],_,J,H,rfl,I.kept λb o e=>zA _ e,T _,st,λb D=>by rw [zD.mp D];exact I.T8 (zC _) (I.hok.fresh (zC _)),q⟩
theorem N8 {l:Expr} {n:TE} (U:PE X l n):PI X tg l (RD X.K n):=by
 intro pins s σ H R I h
 refine bh (U pins s σ H _ I h) λv Y B=>?_
 obtain ⟨x,H1,z,D,a,e,⟨xs,O⟩,q⟩:=B
 subst e
 cases D
 obtain ⟨J,Z,p,hz⟩:=z.list O
 exact wpAny_pyIter_list p.isList (Hz z (Fy a) ⟨_,zE _ rfl,rfl,rfl⟩ q)
theorem wC {h:Heap} {z:Addr} {lo d:Int} {n:Nat} (e:IsRangeIter h z lo n d):IsRangeIter h z (lo+((0:Nat):Int) * d) ((n:Int) - ((0:Nat):Int)) d:=by simpa using e
theorem wD {n:List (Addr × Obj)} {z:St} {H:Hp} {s:Shared} {R:It->Hp->Prop} {E:Value->Shared->Prop} {lo hi:Int} {t u v:Tok} {B:Nat} (I:Inv X n z H s) (Y:-(2 ^ 62)<=lo) (U:lo<2 ^ 62) (O:-(2 ^ 62)<=hi) (J:hi<2 ^ 62)
  (q:R (XC lo 1 (hi - lo).toNat) H):wpAny (model X.prog X.w) X.A (pyIter (.ref s.heap.objs.size)) (PIE X n z tg R) E { s with heap:=s.heap.push { cls:=.type "range",data:=.fields #[.int lo t,.int hi u,.int 1 v] },toks:=B }:=by
 have e2:Builtin.Range.rangeSize lo hi 1=((hi - lo).toNat:Int):=by rw [rangeSize_one];split<;>omega
 refine wpAny_pyIter_range (IsRange.new ..) (small_one Y U O J) ?_
 rw [e2]
 exact Hz (s:={ s with heap:=s.heap.push { cls:=.type "range",data:=.fields #[.int lo t,.int hi u,.int 1 v] },toks:=B }) (I.kept λb o e=>zA _ e) (λD=>qp D lo 1 _) (wC (zE _ rfl)) q
def Yl (n:TA):TI:=λσ H R=>n σ H λvs H1=>∃j:Int,vs=[.int j]/\-(2 ^ 62)<=j/\j<2 ^ 62/\R (XC 0 1 j.toNat) H1
def Ym (n:TA):TI:=λσ H R=>n σ H λvs H1=>∃i j:Int,vs=[.int i,.int j]/\(-(2 ^ 62)<=i/\i<2 ^ 62/\-(2 ^ 62)<=j/\j<2 ^ 62)/\R (XC i 1 (j - i).toNat) H1
theorem Fz {a:Expr} {n:TA} {p pos:Pos} (O:Gl X "range") (J:X.mg "range"=none) (U:PA X [a] n) (D:starEach [a] X.env=[(false,eval a X.env)]:=by rfl):PI X tg (.Call (.Name "range" p) [a] [] pos) (Yl n):=by
 intro pins s σ H R I h
 refine Call_ (gm I O J boot_range (yc (bh (U pos pins s σ H _ I h) λZ s1 z=>?_) D rfl))
 obtain ⟨vs,H1,Y,B,q1⟩:=z
 obtain ⟨j,e,q1,q2,q⟩:=q1
 subst e
 cases B with
 | cons r rr=>
  cases rr
  obtain ⟨t,rfl⟩:=r
  exact call_range_1 (wD Y (by omega) (by omega) q1 q2 (by simpa using q))
theorem FJ {a b:Expr} {z:TA} {p pos:Pos} (Z:Gl X "range") (Y:X.mg "range"=none) (ha:PA X [a,b] z) (U:starEach [a,b] X.env=[(false,eval a X.env),(false,eval b X.env)]:=by rfl) (n:starEach [b] X.env=[(false,eval b X.env)]:=by rfl) :
  PI X tg (.Call (.Name "range" p) [a,b] [] pos) (Ym z):=by
 intro pins s σ H R I h
 refine Call_ (gm I Z Y boot_range (yc (bh (ha pos pins s σ H _ I h) λus s1 B=>?_) (by rw [U,n]) (by rw [n];rfl)))
 obtain ⟨vs,H1,I1,D,q1⟩:=B
 obtain ⟨i,j,e,⟨q1,q2,O,J⟩,q⟩:=q1
 subst e
 cases D with
 | cons r rr=>
  cases rr with
  | cons r' rr=>
   cases rr
   obtain ⟨t,rfl⟩:=r
   obtain ⟨t',rfl⟩:=r'
   exact call_range_2 (wD I1 q1 q2 O J q)
def abD (B:TI) (g:TG) (I:TS):TS:=λD σ H=>B σ H λJ H1=>∃W:Nat->Nat->St->Hp->Prop,(∃m,W 0 m σ H1)/\∀i m σ H,W i m σ H->
 (J.stop i H/\D.nx σ H)\/(J.go i H/\∃N:St->Hp->Prop,(∀σ' H',N σ' H'->∃z,z<m/\W (i+1) z σ' H')/\∀x H',J.RC i H x H'->g x σ H' λn H2=>I { D with nx:=N,ct:=N,bk:=D.nx } n H2)
def qt (n:List Addr) (h:Heap):List (Addr × Obj):=n.filterMap λb=>(h.get? b).map λo=>(b,o)
theorem lq {n:List Addr} {h:Heap} {b:Addr} {o:Obj} (z:b∈n) (e:h.get? b=some o):(b,o)∈qt n h:=List.mem_filterMap.mpr ⟨b,z,by rw [e];rfl⟩
theorem FN {h:Heap} {p:Addr × Obj} (n:p∈qt fp h):p.1∈fp/\h.get? p.1=some p.2:=by
 obtain ⟨b,z,e⟩:=List.mem_filterMap.mp n
 cases q:h.get? b with
 | none=>rw [q] at e;cases e
 | some o=>
  rw [q] at e
  have B:(b,o)=p:=yl e
  subst B
  exact ⟨z,q⟩
theorem Inv.pinned {n:St} {s:Shared} (I:Inv X pins n H s) (hf:∀b∈fp,mG X pins H b) (O:∀b∈fp,∃o,s.heap.get? b=some o/\∀v,o.data≠.cell v):Inv X (pins++qt fp s.heap) n H s:=
 I.pK λp J=>(zT.mp J).elim (λz=>I.pin p (yB _ z)) λz=>by
  obtain ⟨B,e⟩:=FN z
  obtain ⟨f0,Y,U,_⟩:=hf p.1 B
  obtain ⟨o,D,d⟩:=O p.1 B
  rw [e] at D;cases D
  exact ⟨e,f0,Y,U,d⟩
theorem Inv.mJ (I:Inv X (pins++pl) σ H s):Inv X pins σ H s:=I.pK λp n=>I.pin p (yB _ (yQ _ n))
theorem HB {U:Expr} {body:List Stmt} {wi:TI} {g:TG} {tb:TS} {pos:Pos} (hp:PassesOwn (model X.prog X.w) X.A X.env X.xe) (hc:X.calm=true) (hi:PI X tg U wi) (hg:PG X tg g) (Y:fX X body tb)
  (hs:∀x,foldedSetIterable U X.env x=pure x:=by intro _;rfl):PS X (.For tg U body [] pos) (abD wi g tb):=by
 intro pins s σ H D I h
 refine wpAny_For (bh (hi pins s σ H _ I h) λv s1 h1=>bh h1 λitv s2 h2=>?_) hs
 obtain ⟨it,fp,tn,J,H2,e,I2,T,st2,f2,W,⟨m0,w0⟩,turn⟩:=h2
 subst e
 -- what stays true of the iterator's objects through the loop
 have O:∀{H':Hp},(∀b∈fp,H' b=none)->∀b∈fp,mG X pins H' b:=λhn b Y=>⟨hn b Y,(f2 b Y).2⟩
 refine codeAny_forLoop_any (λn s'=>∃i σ' H',Inv X pins σ' H' s'/\tn i s'.heap/\(∀b∈fp,H' b=none)/\W i n σ' H') ?_ m0 ⟨0,σ,H2,I2,st2,λb Y=>(f2 b Y).1,w0⟩
 rintro n s3 ⟨i,B,H3,I3,st3,fr3,w3⟩
 rcases turn i n B H3 w3 with ⟨stop,qn⟩|⟨go,N,hN,step⟩
 ·refine xl hp (bh (T.done X rfl rfl rfl hc i pins s3 B H3 X.xe I3 (O fr3) st3 stop) λr s4 zq=>?_)
  obtain ⟨hr,I4⟩:=zq
  subst hr
  exact xH ⟨B,H3,I4,qn⟩
 ·refine xl hp (bh (T.item X rfl rfl rfl hc i pins s3 B H3 X.xe I3 (O fr3) st3 go) λr s4 zq=>?_)
  obtain ⟨u,hr,h4⟩:=zq
  subst hr
  refine xl hp (bh h4 λ_ s5 zq=>?_)
  obtain ⟨x,H5,I5,r5,y5,st5,fr5⟩:=zq
  have I5':=I5.pinned (O fr5) (T.obj _ _ st5)
  refine xl hp (bh (hg _ s5 B H5 x u _ I5' r5 (step x H5 y5)) λ_ s6 zq=>?_)
  obtain ⟨σ6,H6,I6,q6⟩:=zq
  refine xl hp (bh (Y _ s6 σ6 H6 _ I6 q6) λf s7 q7=>?_)
  have Z:∀{z:St} {H7:Hp},Inv X (pins++qt fp s5.heap) z H7 s7->N z H7->∃m,m<n/\∃i σ' H',Inv X pins σ' H' s7/\tn i s7.heap/\(∀b∈fp,H' b=none)/\W i m σ' H':=λ{z H7} I7 n7=>by
   obtain ⟨m',hm,w7⟩:=hN z H7 n7
   refine ⟨m',hm,i+1,z,H7,I7.mJ,T.keep _ _ _ st5 λb Y o e=>(I7.pin (b,o) (yB _ (yB _ (lq Y e)))).1,λb Y=>?_,w7⟩
   obtain ⟨o,e,d⟩:=T.obj _ _ st5 b Y
   exact (I7.pin (b,o) (yB _ (yB _ (lq Y e)))).2.1
  cases f with
  | next=>obtain ⟨z,H7,I7,n7⟩:=q7;exact Z I7 n7
  | cont=>obtain ⟨z,H7,I7,n7⟩:=q7;exact Z I7 n7
  | brk=>obtain ⟨z,H7,I7,q7⟩:=q7;exact ⟨z,H7,I7.mJ,q7⟩
  | ret v=>obtain ⟨x7,z,H7,I7,r7,q7⟩:=q7;exact ⟨x7,z,H7,I7.mJ,r7,q7⟩
end
abbrev R2:=V->V->Hp->VK->Prop
def g8 (X:Cx) (f:Value->Value->Sem Value) (r:R2):Prop:=
 ∀(pins:List (Addr × Obj)) (s:Shared) (σ:St) (H:Hp) (x y:V) (v u:Value) (Q:VK),Inv X pins σ H s->RelV x v->RelV y u->r x y H Q->
  wpAny (model X.prog X.w) X.A (f v u) (EP X pins σ Q) X.xe s
def UnR (X:Cx) (f:Value->Sem Value) (r:V->Hp->VK->Prop):Prop:=
 ∀(pins:List (Addr × Obj)) (s:Shared) (σ:St) (H:Hp) (x:V) (v:Value) (Q:VK),Inv X pins σ H s->RelV x v->r x H Q->
  wpAny (model X.prog X.w) X.A (f v) (EP X pins σ Q) X.xe s
def gn (X:Cx) (f:Value) (r:List V->Hp->VK->Prop):Prop:=
 ∀(pins:List (Addr × Obj)) (s:Shared) (σ:St) (H:Hp) (xs:List V) (us:List Value) (Q:VK),Inv X pins σ H s->Vals xs us->r xs H Q->
  wpAny (model X.prog X.w) X.A (call f us) (EP X pins σ Q) X.xe s
def Yn (r:R2) (z n:TE):TE:=λσ H Q=>z σ H λx H1=>n σ H1 λy H2=>r x y H2 Q
def tUn (r:V->Hp->VK->Prop) (n:TE):TE:=λσ H Q=>n σ H λx H1=>r x H1 Q
def rI (C:Int->Int->Prop) (g:Int->Int->V):R2:=λx y H Q=>∃i j,x=.int i/\y=.int j/\C i j/\Q (g i j) H
def Bb (g:Int->Int->V):R2:=λx y H Q=>∃i j,x=.int i/\y=.int j/\Q (g i j) H
def rU (g:Int->V):V->Hp->VK->Prop:=λx H Q=>∃i,x=.int i/\Q (g i) H
section
variable {X:Cx} {a b c:Expr} {ta tb tc:TE} {pos:Pos}
theorem N_ (ha:PE X a ta) (hb:PE X b tb) {n:List (Addr × Obj)} {s:Shared} {z:St} {H:Hp} {R:V->V->Hp->Prop} (I:Inv X n z H s)
  (h:ta z H λx H1=>tb z H1 λy H2=>R x y H2) {Q:Value->Shared->Prop} {f:Value->Value->Sem Value}
  (hf:∀v u J x y H2,Inv X n z H2 J->RelV x v->RelV y u->R x y H2->wpAny (model X.prog X.w) X.A (f v u) Q X.xe J) :
  wpAny (model X.prog X.w) X.A (eval a X.env) (λv D=>wpAny (model X.prog X.w) X.A (eval b X.env) (λu B=>wpAny (model X.prog X.w) X.A (f v u) Q X.xe B) X.xe D) X.xe s:=by
 refine bh (ha n s z H _ I h) λv U O=>?_
 obtain ⟨x,H1,I1,Z,q1⟩:=O
 refine bh (hb n U z H1 _ I1 q1) λu J O=>?_
 obtain ⟨y,H2,I2,Y,q2⟩:=O
 exact hf v u J x y H2 I2 Z Y q2
theorem tu {n:Operator} {r:R2} (J:g8 X (binaryOp n) r) (U:PE X a ta) (O:PE X b tb):PE X (.BinOp a n b pos) (Yn r ta tb):=by
 intro pins s σ H Q I h
 exact wpAny_BinOp (N_ U O I h λv u z x y H2 Y D B q=>J pins z σ H2 x y v u Q Y D B q)
theorem Yo {n:UnaryOp} {r:V->Hp->VK->Prop} (J:UnR X (unaryOp n) r) (O:PE X a ta):PE X (.UnaryOp n a pos) (tUn r ta):=by
 intro pins s σ H Q I h
 exact UnaryOp_ (bh (O pins s σ H _ I h) λv B z=>by obtain ⟨x,H1,U,D,q1⟩:=z;exact J pins B σ H1 x v Q U D q1)
theorem XD {f:Value->Value->Sem Value} {C:Int->Int->Prop} {g:Int->Int->Int}
  (n:∀(i j:Int) (t u:Tok) (s:Shared) (Q:Value->Shared->Prop) (E:Value->Shared->Prop),C i j->Q (.int (g i j) s.toks) { s with toks:=s.toks+1 }->wpAny (model X.prog X.w) X.A (f (.int i t) (.int j u)) Q E s) :
  g8 X f (rI C λi j=>.int (g i j)):=by
 intro pins s σ H x y v u Q I D B h
 obtain ⟨i,j,rfl,rfl,J,q⟩:=h
 obtain ⟨t,rfl⟩:=D
 obtain ⟨z,rfl⟩:=B
 exact n i j t z s _ _ J ⟨.int (g i j),H,I.tok _,⟨_,rfl⟩,q⟩
theorem HD {f:Value->Value->Sem Value} {g:Int->Int->Int}
  (n:∀(i j:Int) (t u:Tok) (s:Shared) (Q:Value->Shared->Prop) (E:Value->Shared->Prop),Q (.int (g i j) s.toks) { s with toks:=s.toks+1 }->wpAny (model X.prog X.w) X.A (f (.int i t) (.int j u)) Q E s) :
  g8 X f (Bb λi j=>.int (g i j)):=by
 intro pins s σ H x y v u Q I D B h
 obtain ⟨i,j,rfl,rfl,q⟩:=h
 obtain ⟨t,rfl⟩:=D
 obtain ⟨z,rfl⟩:=B
 exact n i j t z s _ _ ⟨.int (g i j),H,I.tok _,⟨_,rfl⟩,q⟩
theorem Oa {f:Value->Value->Sem Value} {g:Int->Int->Bool}
  (n:∀(i j:Int) (t u:Tok) (s:Shared) (Q:Value->Shared->Prop) (E:Value->Shared->Prop),Q (.bool (g i j)) s->wpAny (model X.prog X.w) X.A (f (.int i t) (.int j u)) Q E s) :
  g8 X f (Bb λi j=>.bl (g i j)):=by
 intro pins s σ H x y v u Q I D B h
 obtain ⟨i,j,rfl,rfl,q⟩:=h
 obtain ⟨t,rfl⟩:=D
 obtain ⟨z,rfl⟩:=B
 exact n i j t z s _ _ ⟨.bl (g i j),H,I,rfl,q⟩
def Ob (i j:Int):Prop:=0<j/\j<1073741824
def T_ (i j:Int):Prop:=0<=j/\j<=1000000/\i.natAbs<2 ^ 64
def Bh (i j:Int):Prop:=(-(2 ^ 64)<i/\i<2 ^ 64)\/(-(2 ^ 64)<j/\j<2 ^ 64)
theorem Bh.ok {i j:Int} (h:Bh i j):IntMulOk i j:=by
 rcases h with ⟨h1,h2⟩|⟨h1,h2⟩
 ·exact .of_left (intBits_le_64 h1 h2)
 ·exact .of_right (intBits_le_64 h1 h2)
theorem Ua:g8 X (binaryOp .Add) (Bb λi j=>.int (i+j)):=HD λ_ _ _ _ _ _ _ q=>add_int q
theorem Ub:g8 X (binaryOp .Sub) (Bb λi j=>.int (i - j)):=HD λ_ _ _ _ _ _ _ q=>sub_int q
theorem Uc:g8 X (binaryOp .Mult) (rI Bh λi j=>.int (i * j)):=XD λ_ _ _ _ _ _ _ n q=>mul_int q n.ok
theorem aa3:g8 X (binaryOp .FloorDiv) (rI Ob λi j=>.int (i / j)):=XD λi j _ _ _ _ _ n q=>by
 have h1:(0:Int)<j:=n.1
 have h2:j<1073741824:=n.2
 exact floordiv_int (by omega) (by rw [Int.fdiv_eq_ediv_of_nonneg i (by omega)];exact q) (.inl (PyProof.noPylong_small (by omega)))
theorem Ud:g8 X (binaryOp .Mod) (rI (λ_ j=>0<j) λi j=>.int (i % j)):=XD λi j _ _ _ _ _ n q=>by
 have h1:(0:Int)<j:=n
 exact mod_int' (by omega) (by rw [Int.fmod_eq_emod_of_nonneg i (by omega)];exact q)
theorem Ue:g8 X (binaryOp .Pow) (rI T_ λi j=>.int (i ^ j.toNat)):=XD λ_ _ _ _ _ _ _ n q=>pow_int_small n.1 n.2.1 n.2.2 q
theorem Ug:g8 X (binaryOp .BitAnd) (Bb λi j=>.int (Builtin.bitAnd i j)):=HD λ_ _ _ _ _ _ _ q=>and_int q
theorem Oc:g8 X (inplaceOp .Add) (Bb λi j=>.int (i+j)):=HD λ_ _ _ _ _ _ _ q=>iadd_int q
theorem Od:g8 X (inplaceOp .Sub) (Bb λi j=>.int (i - j)):=HD λ_ _ _ _ _ _ _ q=>isub_int q
theorem Oe:g8 X (inplaceOp .Mult) (rI Bh λi j=>.int (i * j)):=XD λ_ _ _ _ _ _ _ n q=>imul_int q n.ok
theorem unI {f:Value->Sem Value} {g:Int->Int}
  (n:∀(i:Int) (t:Tok) (s:Shared) (Q:Value->Shared->Prop) (E:Value->Shared->Prop),Q (.int (g i) s.toks) { s with toks:=s.toks+1 }->wpAny (model X.prog X.w) X.A (f (.int i t)) Q E s) :
  UnR X f (rU λi=>.int (g i)):=by
 intro pins s σ H x v Q I z h
 obtain ⟨i,rfl,q⟩:=h
 obtain ⟨t,rfl⟩:=z
 exact n i t s _ _ ⟨.int (g i),H,I.tok _,⟨_,rfl⟩,q⟩
theorem Uh:UnR X (unaryOp .USub) (rU λi=>.int (-i)):=unI λ_ _ _ _ _ q=>neg_int q
end
inductive HF:V->V->Bool->Prop
 | int (i j:Int):HF (.int i) (.int j) (decide (i=j))
 | bl (i j:Bool):HF (.bl i) (.bl j) (decide (i=j))
 | str (i j:Str):HF (.str i) (.str j) (decide (i=j))
def rEq (f:Bool->Bool):R2:=λx y H Q=>∃k,HF x y k/\Q (.bl (f k)) H
section
variable {X:Cx} {a b c:Expr} {ta tb tc:TE} {pos:Pos}
theorem RG:g8 X (compareOp .Eq) (rEq λk=>k):=by
 intro pins s σ H x y v u Q I z n h
 obtain ⟨k,h,q⟩:=h
 cases h with
 | int i j=>obtain ⟨t,rfl⟩:=z;obtain ⟨B,rfl⟩:=n;exact eq_int ⟨.bl _,H,I,rfl,q⟩
 | bl i j=>cases z;cases n;exact eq_bool ⟨.bl _,H,I,rfl,q⟩
 | str i j=>obtain ⟨t,rfl⟩:=z;obtain ⟨B,rfl⟩:=n;exact eq_str ⟨.bl _,H,I,rfl,q⟩
theorem RJ:g8 X (compareOp .NotEq) (rEq λk=>!k):=by
 intro pins s σ H x y v u Q I z n h
 obtain ⟨k,h,q⟩:=h
 cases h with
 | int i j=>obtain ⟨t,rfl⟩:=z;obtain ⟨B,rfl⟩:=n;exact ne_int ⟨.bl _,H,I,rfl,q⟩
 | bl i j=>cases z;cases n;exact ne_bool ⟨.bl _,H,I,rfl,q⟩
 | str i j=>obtain ⟨t,rfl⟩:=z;obtain ⟨B,rfl⟩:=n;exact ne_str ⟨.bl _,H,I,rfl,q⟩
theorem RK:g8 X (compareOp .Lt) (Bb λi j=>.bl (decide (i<j))):=Oa λ_ _ _ _ _ _ _ q=>lt_int q
theorem oZ:g8 X (compareOp .LtE) (Bb λi j=>.bl (decide (i<=j))):=Oa λ_ _ _ _ _ _ _ q=>le_int q
theorem RL:g8 X (compareOp .Gt) (Bb λi j=>.bl (decide (j<i))):=Oa λ_ _ _ _ _ _ _ q=>gt_int q
theorem Yp:g8 X (compareOp .GtE) (Bb λi j=>.bl (decide (j<=i))):=Oa λ_ _ _ _ _ _ _ q=>ge_int q
theorem fO (b:Expr) {n:CmpOp} (h:n≠.In:=by decide) (z:n≠.NotIn:=by decide):behindInMarks n b=false:=by
 have e1:(n == CmpOp.In)=false:=by cases n<;>first|rfl|exact absurd rfl h
 have e2:(n == CmpOp.NotIn)=false:=by cases n<;>first|rfl|exact absurd rfl z
 cases b<;>simp [behindInMarks,e1,e2]
theorem pL {n:CmpOp} {r:R2} (J:g8 X (compareOp n) r) (Y:PE X a ta) (U:PE X b tb) (O:behindInMarks n b=false):PE X (.Compare a [n] [b] pos) (Yn r ta tb):=by
 intro pins s σ H Q I h
 exact wpAny_Compare1 (N_ Y U I h λv u z x y H2 Z D B q=>J pins z σ H2 x y v u Q Z D B q) O
def RM (t:TE):TT:=λσ H Q=>t σ H λx H'=>∃k,x=.bl k/\Q k H'
theorem jg {n:CmpOp} {r:R2} (Z:g8 X (compareOp n) r) (ha:PE X a ta) (hb:PE X b tb) (hm:behindInMarks n b=false):PT X (.Compare a [n] [b] pos) (RM (Yn r ta tb)):=by
 intro pins s σ H Q I h
 refine wpAny_isTrue_Compare1 (bh (ha pins s σ H _ I h) λv D ⟨x,H1,I1,U,q1⟩=>bh (hb pins D σ H1 _ I1 q1) λu B ⟨y,H2,I2,O,q2⟩=>
  bh (Z pins B σ H2 x y v u _ I2 U O q2) λc s3 ⟨z,H3,I3,J,k,e,Y⟩=>?_) hm
 subst e
 cases J
 exact yy ⟨H3,I3,Y⟩
def Ui (r O:R2) (J I D:TE):TE:=λσ H Q=>J σ H λx H1=>I σ H1 λy H2=>r x y H2 λz n=>∃k,z=.bl k /\
 (if k=true then D σ n λB U=>O y B U Q else Q (.bl false) n)
theorem HJ {B n:CmpOp} {r O:R2} (ho:g8 X (compareOp B) r) (D:g8 X (compareOp n) O) (ha:PE X a ta) (hb:PE X b tb) (hc:PE X c tc)
  (hm:lastMarks [B,n] [b,c]=false:=by with_unfolding_all rfl):PT X (.Compare a [B,n] [b,c] pos) (RM (Ui r O ta tb tc)):=by
 intro pins s σ H Q I h
 refine isTrue_chain (bh (ha pins s σ H _ I h) λv s1 ⟨x,H1,I1,r1,q1⟩=>test_link (bh (hb pins s1 σ H1 _ I1 q1) λu s2 ⟨y,H2,I2,J,q2⟩=>
  bh (ho pins s2 σ H2 x y v u _ I2 r1 J q2) λd s3 ⟨z,Z,Y,r3,k,e,U⟩=>?_)) hm
 subst e
 cases r3
 refine yy ?_
 cases k with
 | false=>
  obtain ⟨k',e',q'⟩:=U
  cases e'
  exact ite_ff ⟨Z,Y,q'⟩
 | true=>
  refine ite_tt (test_last (bh (hc pins s3 σ Z _ Y U) λw' s4 ⟨z',H4,I4,r4,q4⟩=>bh (D pins s4 σ H4 y z' u w' _ I4 J r4 q4) λd' s5 zq=>?_))
  obtain ⟨z2,H5,I5,r5,k2,e2,q5⟩:=zq
  subst e2
  cases r5
  exact yy ⟨H5,I5,q5⟩
theorem lz:(sizeLine:Nat)<2 ^ 63:=by rw [xG];decide
theorem Bj:g8 X (binaryOp .Add) (λx y H Q=>∃i j,x=.str i/\y=.str j/\i.length+j.length<=sizeLine/\Q (.str (i++j)) H):=by
 intro pins s σ H x y v u Q I B z h
 obtain ⟨i,j,rfl,rfl,D,q⟩:=h
 obtain ⟨t,rfl⟩:=B
 obtain ⟨n,rfl⟩:=z
 exact add_str (λn tk=>⟨.str (i++j),H,I.tok _,⟨_,rfl⟩,q⟩) D
theorem vals1 (r:Vals [x] us):∃u,us=[u]/\RelV x u:=by
 cases r with
 | cons r1 r2=>cases r2;exact ⟨_,rfl,r1⟩
theorem vals2 (r:Vals [x,y] us):∃u w',us=[u,w']/\RelV x u/\RelV y w':=by
 cases r with
 | cons r1 r2=>
  cases r2 with
  | cons r3 r4=>cases r4;exact ⟨_,_,rfl,r1,r3⟩
theorem FP (z:X.calm=true):gn X (.builtin "min") (λxs H Q=>∃i j,xs=[.int i,.int j]/\Q (.int (if j<i then j else i)) H):=by
 intro pins s σ H xs D Q I r h
 obtain ⟨i,j,rfl,q⟩:=h
 obtain ⟨u,B,rfl,⟨t,rfl⟩,⟨J,rfl⟩⟩:=vals2 r
 refine min_two_ints (I.ok.hd z) λh' tk k=>⟨_,H,I.kept k,?_,q⟩
 by_cases n:j<i
 ·rw [zo n,zo n];exact ⟨_,rfl⟩
 ·rw [zi n,zi n];exact ⟨_,rfl⟩
theorem FQ:gn X (.type "int") (λxs H Q=>(∃i,xs=[.int i]/\Q (.int i) H)\/∃k,xs=[.bl k]/\Q (.int (if k then 1 else 0)) H):=by
 intro pins s σ H xs z Q I r h
 rcases h with ⟨i,rfl,q⟩|⟨k,rfl,q⟩
 ·obtain ⟨u,rfl,t,rfl⟩:=vals1 r
  exact call_int_int ⟨.int i,H,I,⟨_,rfl⟩,q⟩
 ·obtain ⟨u,rfl,n⟩:=vals1 r
  cases n
  exact call_int_bool ⟨.int (if k then 1 else 0),H,I.tok _,⟨_,rfl⟩,q⟩
theorem uz:gn X (.type "str") (λxs H Q=>∃i,xs=[.int i]/\i.natAbs.log2<1920/\Q (.str (toString i)) H):=by
 intro pins s σ H xs z Q I r h
 obtain ⟨i,rfl,n,q⟩:=h
 obtain ⟨u,rfl,t,rfl⟩:=vals1 r
 exact PySem.P.str_of_int n ⟨.str _,H,I.tok _,⟨_,rfl⟩,q⟩
theorem wG:gn X (.builtin "divmod") (λxs H Q=>∃i j,xs=[.int i,.int j]/\Ob i j/\∀p,H p=none->Q (.ref p) (upd H p (.tup [.int (i / j),.int (i % j)]))):=by
 intro pins s σ H xs B Q I r h
 obtain ⟨i,j,rfl,⟨h1,h2⟩,q⟩:=h
 obtain ⟨u,z,rfl,⟨t,rfl⟩,⟨D,rfl⟩⟩:=vals2 r
 refine divmod_int (by omega) ?_ (.inl (PyProof.noPylong_small (by omega)))
 rw [Int.fdiv_eq_ediv_of_nonneg i (by omega),Int.fmod_eq_emod_of_nonneg i (by omega)]
 have n:H s.heap.objs.size=none:=I.hok.fresh (zC _)
 refine ⟨.ref s.heap.objs.size,_,?_,rfl,q _ n⟩
 refine I.laid (λb o e=>zA _ e) (zC _) ⟨by simp only [zJ,List.length_nil];rw [xG];decide,[.int (i / j) s.toks,.int (i % j) (s.toks+1)],.cons ⟨_,rfl⟩ (.cons ⟨_,rfl⟩ .nil),?_⟩
 exact ⟨_,zE s.heap rfl,rfl,0,rfl⟩
end
structure Bk (h:Heap) (x dx C:Addr) (mA:Str->Option Value):Prop where
 obj:h.get? x=some (PySem.W.instObj C dx)
 ns:h.Ns1 dx mA
 ne:dx≠x
theorem FT {h:Heap} (n:h.Ns1 dx mA):∃D,h.get? dx=some D/\∀name,PySem.W.lookIn name D=some (mA name):=by
 obtain ⟨o,es,Z,J,hd,U,_,O⟩:=n
 refine ⟨o,J,λname=>?_⟩
 have e:=O name
 unfold nsFind findBy at e
 rw [<-Array.find?_toList] at e
 unfold PySem.W.lookIn
 rw [hd]
 dsimp only
 split
 ·rename_i y q
  rw [q] at e
  exact zV some e
 ·rename_i q
  rw [q] at e
  have a:es.toList.any (·.refKey)=false:=by
   rw [List.any_eq_false]
   intro y I
   obtain ⟨z,t,B⟩:=U y (Array.mem_toList_iff.mp I)
   simp [DictEntry.refKey,B]
  have Y:¬es.toList.any (·.refKey)=true:=by rw [a];exact yg
  rw [zi Y]
  exact zV some e
theorem Bk.look (I:Bk h x dx C mA):∃n,PySem.W.InstAt h x (PySem.W.instObj C dx) C (some n)/\∀name,PySem.W.lookIn name n=some (mA name):=
 let ⟨n,ho,hl⟩:=FT I.ns
 ⟨n,⟨I.obj,rfl,rfl,ho⟩,hl⟩
section
variable {prog:Program} {w:World} {A:Around} {E:Value->Shared->Prop} {s:Shared} {K:PySem.W.Frag} {x dx C f:Addr} {mA:Str->Option Value} {name:Str} {v:Value}
theorem get_map (X:K.In s.heap) (I:Bk s.heap x dx C mA) (O:PySem.W.plainGet K C name=true) (D:PySem.W.hasDictIn K C=true)
  (U:PySem.W.findIn K (.ref C) name=some none) (z:mA name=some v) (n:PySem.W.handedIn v=true) (h:Q v { s with toks:=s.toks+1 }) :
  wpAny (model prog w) A (getAttr (.ref x) name expr) Q E s:=by
 obtain ⟨Y,J,B⟩:=I.look
 exact PySem.W.get_value X J (PySem.W.plainGet_of O).1 (PySem.W.findObj_own D U rfl (by rw [B,z])) n h
theorem HN (X:K.In s.heap) (I:Bk s.heap x dx C mA) (n:PySem.W.plainGet K C name=true)
  (hf:PySem.W.findIn K (.ref C) name=some (some (.ref f))) (D:PySem.W.isFn K (.ref f)=true) (B:mA name=none) (h:Q (.ref f,[.ref x]) s) :
  wpAny (model prog w) A (getMethod (.ref x) name pl) Q E s:=by
 obtain ⟨z,J,O⟩:=I.look
 exact PySem.W.method_fn X J (PySem.W.plainGet_of n).1 (PySem.W.plainGet_of n).2 hf (beq_iff_eq.mp D) (by show (PySem.W.lookIn name z).map (·.isSome)=some false;rw [O,B];rfl) h
theorem Og {ns:List Str} (X:K.In s.heap) (I:Bk s.heap x dx C mA)
  (hs:PySem.W.findIn K (.ref C) "__setattr__"=some (some (.builtin "object.__setattr__"))) (hp:PySem.W.plainOver K C=true) (Z:PySem.W.takerIn K C name=some none) (hh:PySem.W.hasDictIn K C=true)
  (Y:PySem.Within mA ns) (hsz:ns.length<=sizeLine)
  (h:∀h',Bk h' x dx C (λy=>if y=name then some v else mA y)->Heap.SameBut dx s.heap h'->Q () { s with heap:=h',toks:=s.toks+2 }) :
  wpAny (model prog w) A (setAttr (.ref x) name v) Q E s:=by
 obtain ⟨od,J,hl⟩:=I.look
 refine PySem.W.set_plain X J hs (PySem.W.osa_open (s:={ s with toks:=s.toks+1 }) (r:=none) X J hp Z λb=>?_)
 obtain ⟨cd,hc,hd'⟩:=PySem.W.any_some hh
 have U:s.heap.get? x=some ⟨.ref C,some dx,.plain,#[]⟩:=I.obj
 refine zh (zG (zh (zh (wpAny_loadPart U (zh (PySem.W.Looks.here (s:={ s with toks:=s.toks+1 }) (PySem.W.looks_clsIn X hc) ?_))))))
 rw [hd']
 refine zG (a:=some dx) (zh (zG (zh ?_)))
 refine wpAny_nsSet1 (s:={ s with toks:=s.toks+1 }) I.ns λh' z n=>?_
 obtain ⟨oD,esD,epD,B,D,O⟩:=z.count (PySem.Within.cons name v Y)
 refine zh (wpAny_lookBehind B (by rw [D];exact pastItsLine_dict (yi O (by rw [zJ];omega))) ?_)
 exact zG (h _ ⟨(n.2 _ (Ne.symm I.ne)).trans I.obj,z,I.ne⟩ n)
theorem HQ (X:K.In s.heap) (n:PySem.W.makesIn K C=true)
  (hi:PySem.W.findIn K (.ref C) "__init__"=some (some (.ref f))) (hf:PySem.W.typeIn K (.ref f)=some (.type "function"))
  (h:codeAny (model prog w) (A.under (.builtin "type.__call__" ⟨.ref C::vs,kw⟩)) (.call (.ref f) ⟨.ref (s.heap.objs.size+1)::vs,kw⟩) (PySem.W.InitBack (s.heap.objs.size+1) R)
   { s with heap:=(s.heap.push PySem.W.emptyDict).push (PySem.W.instObj C s.heap.objs.size) }) :
  codeAny (model prog w) A (.call (.ref C) ⟨vs,kw⟩) R s:=by
 obtain ⟨z,g,d,t,os⟩:=s
 exact PySem.W.make_core (PySem.W.makes_of X n) (PySem.W.looks_findIn X hi) (λself=>PySem.W.bind_fn X self hf) (.inl rfl) h
end
def iJ (f:Str) (v:V):List (Str × V)->List (Str × V)
 | []=>[(f,v)]
 | (g,x)::r=>if g=f then (g,v)::r else (g,x)::iJ f v r
theorem o6 (f g:Str) (v:V):∀fs:List (Str × V),(iJ f v fs).lookup g=if g=f then some v else fs.lookup g
 | []=>by
  show List.lookup g [(f,v)]=_
  by_cases h:g=f
  ·have n:(g == f)=true:=beq_iff_eq.mpr h
   simp only [List.lookup,n,zo h]
  ·have n:(g == f)=false:=xb.mpr h
   simp only [List.lookup,n,zi h]
 | (k,x)::r=>by
  have B:=o6 f g v r
  rw [show iJ f v ((k,x)::r)=(if k=f then (k,v)::r else (k,x)::iJ f v r) from rfl]
  by_cases z:k=f
  ·rw [zo z]
   by_cases h:g=k
   ·have n:(g == k)=true:=beq_iff_eq.mpr h
    simp only [List.lookup,n,zo (h.trans z)]
   ·have n:(g == k)=false:=xb.mpr h
    simp only [List.lookup,n,zi (λe:g=f=>h (e.trans z.symm))]
  ·rw [zi z]
   by_cases h:g=k
   ·have n:(g == k)=true:=beq_iff_eq.mpr h
    simp only [List.lookup,n,zi (λe:g=f=>z (h.symm.trans e))]
   ·have n:(g == k)=false:=xb.mpr h
    simp only [List.lookup,n]
    exact B
theorem nQ (f:Str) (v:V):∀fs:List (Str × V),f∈(iJ f v fs).map (·.1)/\∀g,g∈fs.map (·.1)->g∈(iJ f v fs).map (·.1)
 | []=>⟨by simp [iJ],λg h=>by simp at h⟩
 | (k,x)::r=>by
  obtain ⟨B,z⟩:=nQ f v r
  rw [show iJ f v ((k,x)::r)=(if k=f then (k,v)::r else (k,x)::iJ f v r) from rfl]
  by_cases n:k=f
  ·rw [zo n]
   subst n
   exact ⟨by simp,λg h=>by simpa using h⟩
  ·rw [zi n]
   refine ⟨?_,λg h=>?_⟩
   ·rw [yq]
    exact zr _ B
   ·rw [yq] at h ⊢
    rcases zu.mp h with e|e
    ·exact zu.mpr (.inl e)
    ·exact zr _ (z g e)
theorem o7 (f:Str) (v:V):∀fs:List (Str × V),(iJ f v fs).length<=fs.length+1
 | []=>by simp [iJ]
 | (k,x)::r=>by
  have z:=o7 f v r
  rw [show iJ f v ((k,x)::r)=(if k=f then (k,v)::r else (k,x)::iJ f v r) from rfl]
  by_cases n:k=f
  ·rw [zo n,zJ,zJ];omega
  ·rw [zi n,zJ,zJ];omega
theorem pD.some_of (r:pD (some v) o):∃u,o=some u/\RelV v u:=by
 cases o with
 | none=>exact (show False from r).elim
 | some u=>exact ⟨u,rfl,r⟩
theorem pD.none_of (r:pD none o):o=none:=by
 cases o with
 | none=>rfl
 | some u=>exact (show False from r).elim
theorem FW (r:RelV v u):PySem.W.handedIn u=true:=by
 cases v with
 | non=>cases (show u=Value.none from r);rfl
 | bl b=>cases (show u=Value.bool b from r);rfl
 | int i=>obtain ⟨t,e⟩:=(show ∃t,u=Value.int i t from r);cases e;rfl
 | str x=>obtain ⟨t,e⟩:=(show ∃t,u=Value.str x t from r);cases e;rfl
 | ref a=>cases (show u=Value.ref a from r);rfl
 | ty n=>cases (show u=Value.type n from r);rfl
section
variable {P:Program} {w:World} {H H':Hp} {h h':Heap} {a C dx:Addr} {fs fs':List (Str × V)}
theorem pM (hok:jE P w H h) (e:H a=some (.ins C dx fs)):∃mA,Bk h a dx C mA/\(∀f,pD (fs.lookup f) (mA f))/\PySem.Within mA (fs.map (·.1))/\fs.length<=1000/\H dx=some (.own a):=by
 obtain ⟨d,z,ne,B,mA,n,r,q⟩:=(show bK P w H h a (.ins C dx fs) from hok a _ e)
 exact ⟨mA,⟨B,n,ne⟩,r,q,z,d⟩
end
structure tD (K:PySem.W.Frag) (C:Addr):Prop where
 pg:PySem.W.plainGet K C Str.empty=true
 hd:PySem.W.hasDictIn K C=true
 po:PySem.W.plainOver K C=true
 sa:PySem.W.findIn K (.ref C) "__setattr__"=some (some (.builtin "object.__setattr__"))
theorem tD.get {K:PySem.W.Frag} {C:Addr} (c:tD K C) (f:Str):PySem.W.plainGet K C f=true:=c.pg
def g_ (K:PySem.W.Frag) (C:Addr) (f:Str):Prop:=PySem.W.findIn K (.ref C) f=some none
theorem g_.taker {K:PySem.W.Frag} {C:Addr} {f:Str} (n:g_ K C f):PySem.W.takerIn K C f=some none:=by
 unfold PySem.W.takerIn
 rw [show PySem.W.findIn K (.ref C) f=some none from n]
 rfl
structure Meth (K:PySem.W.Frag) (C:Addr) (m:Str) (f:Addr):Prop where
 at_:PySem.W.findIn K (.ref C) m=some (some (.ref f))
 fn:PySem.W.isFn K (.ref f)=true
 kp:PySem.W.keepIn K (.ref f)=true
section
variable {X:Cx} {pins:List (Addr × Obj)} {σ:St} {H:Hp} {s:Shared} {a C dx:Addr} {fs:List (Str × V)} {f:Str} {v:V} {A:Around} {E:Value->Shared->Prop}
theorem Bl {b:Bool} {Q:Value->Shared->Prop} (I:Inv X pins σ H s) (e:H a=some (.ins C dx fs)) (c:tD X.K C) (n:g_ X.K C f) (l:fs.lookup f=some v)
  (h:∀u s',Inv X pins σ H s'->RelV v u->Q u s'):wpAny (model X.prog X.w) A (getAttr (.ref a) f b) Q E s:=by
 obtain ⟨mA,O,r,_,_,_⟩:=pM I.hok e
 obtain ⟨u,B,z⟩:=pD.some_of (v:=v) (o:=mA f) (by rw [<-l];exact r f)
 exact get_map I.qj O (c.get f) c.hd n B (FW z) (h u _ (I.tok _) z)
theorem lA {m:Str} (I:Inv X pins σ H s) (e:H a=some (.ins C dx fs)) (c:tD X.K C) (k:Meth X.K C m g) (l:fs.lookup m=none)
  (h:Q (.ref g,[.ref a]) s):wpAny (model X.prog X.w) A (getMethod (.ref a) m pl) Q E s:=by
 obtain ⟨mA,O,r,_,_,_⟩:=pM I.hok e
 have n:mA m=none:=pD.none_of (by rw [<-l];exact r m)
 exact HN I.qj O (c.get m) k.at_ k.fn n h
theorem Bm (I:Inv X pins σ H s) (e:H a=some (.ins C dx fs)) (c:tD X.K C) (n:g_ X.K C f) (hl:fs.length<1000) (Y:RelV y u)
  (h:∀s',Inv X pins σ (upd H a (.ins C dx (iJ f y fs))) s'->Q () s'):wpAny (model X.prog X.w) A (setAttr (.ref a) f u) Q E s:=by
 obtain ⟨mA,O,r,D,_,J⟩:=pM I.hok e
 have Z:(fs.map (·.1)).length<=sizeLine:=by rw [z9,xG];omega
 refine Og I.qj O c.sa c.po n.taker c.hd D Z λh' B U=>h _ ?_
 have hd:∃o,h'.get? dx=some o:=let ⟨o,_,_,e',_⟩:=B.ns;⟨o,e'⟩
 refine I.write (x:=a) (e:=dx) (by rw [e];exact True.intro) (.inr J) (λb q hb z=>(U.2 b hb).trans z) hd ?_
 refine ⟨by rw [aC O.ne];exact J,?_,O.ne,B.obj,_,B.ns,λg=>?_,λg hg=>?_⟩
 ·have:=o7 f y fs;omega
 ·show pD ((iJ f y fs).lookup g) (if g=f then some u else mA g)
  rw [o6]
  by_cases q:g=f
  ·rw [zo q,zo q];exact Y
  ·rw [zi q,zi q];exact r g
 ·by_cases q:g=f
  ·rw [q];exact (nQ f y fs).1
  ·refine (nQ f y fs).2 g (D g λz=>hg ?_)
   show (if g=f then some u else mA g)=none
   rw [zi q];exact z
theorem Inv.made (I:Inv X pins σ H s):Inv X pins σ (upd (upd H s.heap.objs.size (.own (s.heap.objs.size+1))) (s.heap.objs.size+1) (.ins C s.heap.objs.size []))
  { s with heap:=(s.heap.push PySem.W.emptyDict).push (PySem.W.instObj C s.heap.objs.size) }:=by
 have e1:(s.heap.push PySem.W.emptyDict).get? s.heap.objs.size=some PySem.W.emptyDict:=zE s.heap rfl
 have e2:((s.heap.push PySem.W.emptyDict).push (PySem.W.instObj C s.heap.objs.size)).get? (s.heap.objs.size+1)=some (PySem.W.instObj C s.heap.objs.size):=by
  have:=zE (s.heap.push PySem.W.emptyDict) (o:=PySem.W.instObj C s.heap.objs.size) rfl
  rwa [xp] at this
 have B:(s.heap.push PySem.W.emptyDict).Ns s.heap.objs.size (λ_=>none):=⟨PySem.W.emptyDict,#[],_,e1,rfl,(λe z=>absurd z (by simp)),λ_=>rfl⟩
 have D:=I.laid (a:=s.heap.objs.size) (o:=.own (s.heap.objs.size+1)) (h':=s.heap.push PySem.W.emptyDict) (t':=s.toks) (λb u q=>zA _ q) (zC _) ⟨_,e1⟩
 refine D.laid (a:=s.heap.objs.size+1) (o:=.ins C s.heap.objs.size []) (t':=s.toks) (λb u q=>zA _ q) (Nat.le_of_eq (xp _ _)) ?_
 have ne:s.heap.objs.size≠s.heap.objs.size+1:=zN (Nat.lt_succ_self _)
 refine ⟨by rw [aC ne,aN],yN _,ne,e2,λ_=>none,(Heap.Ns1.of_empty B).at λo q=>zA _ q,λ_=>True.intro,λy n=>absurd rfl n⟩
theorem Oh {prog:Program} {w:World} {env:Env} {e:Expr} {f:Str} {pos:Pos} {s:Shared} {Q:Value->Shared->Prop} (n:attributeBase e f env (eval e env)=eval e env)
  (h:wpAny (model prog w) A (eval e env) (λo s₁=>wpAny (model prog w) A (getAttr o f true) Q E s₁) E s):wpAny (model prog w) A (eval (.Attribute e f pos) env) Q E s:=
 Attribute_any_ h (by rw [arm_eval_Attribute,n])
end
def abG (K:PySem.W.Frag) (n:TE) (f:Str):TE:=λσ H Q=>n σ H λx H1=>∃a C dx fs v,x=.ref a/\H1 a=some (.ins C dx fs)/\tD K C/\g_ K C f/\fs.lookup f=some v/\Q v H1
def abH (K:PySem.W.Frag) (z n:TE) (f:Str):TS:=λD σ H=>n σ H λy H1=>z σ H1 λx H2=>∃a C dx fs,x=.ref a/\H2 a=some (.ins C dx fs)/\tD K C/\g_ K C f/\fs.length<1000 /\
 D.nx σ (upd H2 a (.ins C dx (iJ f y fs)))
section
variable {X:Cx} {o e value:Expr} {f:Str} {pos pos' tpos:Pos} {ta tv:TE}
theorem Uj (he:PE X e ta) (J:attributeBase e f X.env (eval e X.env)=eval e X.env):PE X (.Attribute e f pos) (abG X.K ta f):=by
 intro pins s σ H Q I h
 refine Oh J (bh (he pins s σ H _ I h) λu s1 z=>?_)
 obtain ⟨x,H1,Y,B,a,C,dx,fs,v,ex,O,c,n,l,q⟩:=z
 subst ex
 obtain rfl:u=Value.ref a:=B
 exact Bl Y O c n l λZ s2 U D=>⟨v,H1,U,D,q⟩
theorem Uk (ha:PE X o ta) (Y:PE X value tv) (Z:swapsWith value (some (.Attribute o f pos')) pos.line X.env=pure false):PS X (.Assign [.Attribute o f pos'] value pos) (abH X.K ta tv f):=by
 intro pins s σ H D I h
 refine plainObj_wpAny_Assign_Attribute (bh (Y pins s σ H _ I h) λu B ⟨y,H1,I1,J,q⟩=>bh (ha pins B σ H1 _ I1 q) λU s2 z=>?_) Z
 obtain ⟨x,H2,I2,O,a,C,dx,fs,ex,ea,c,n,l,q2⟩:=z
 subst ex
 obtain rfl:U=Value.ref a:=O
 exact Bm I2 ea c n l J λs3 I3=>⟨σ,_,I3,q2⟩
theorem RN {m : Str} {n : Pos} (he : PE X e te) (I : Inv X pins σ H s)
    (h : te σ H λx H1 => ∃ a C dx fs g, x = .ref a ∧ H1 a = some (.ins C dx fs) ∧ tD X.K C ∧ Meth X.K C m g ∧ fs.lookup m = none ∧
      ∀ z, Inv X pins σ H1 z → wpAny (model X.prog X.w) X.A (callWith pos (.ref g) [.ref a] (backTo pos (starEach args X.env)) (backToKw pos (keywordEach [] X.env))) Q X.xe z)
    (O : eval (.Call (.Attribute e m n) args [] pos) X.env = (do
      let ov ← eval e X.env
      standAt n.atName
      let (f, first) ← holding [ov] (getMethod ov m pl)
      callWith pos f first (backTo pos (starEach args X.env)) (backToKw pos (keywordEach [] X.env)))) :
    wpAny (model X.prog X.w) X.A (eval (.Call (.Attribute e m n) args [] pos) X.env) Q X.xe s := by
  refine PySem.W.methodCall_KW (pl := pl) (bh (he pins s σ H _ I h) λu z D=>?_) O
  obtain ⟨x, H1, B, J, a, C, dx, fs, g, ex, U, c, k, l, q⟩:=D
  subst ex
  obtain rfl : u = Value.ref a := J
  exact lA B U c k l (q z B)
end
section
variable {X:Cx} {pins:List (Addr × Obj)} {σ:St} {H:Hp} {s:Shared} {A:Around} {E:Value->Shared->Prop} {Q:Value->Shared->Prop} {c:Value} {b:Bool}
inductive sH (K:PySem.W.Frag) (H:Hp):V->Value->Prop where
 | non:sH K H .non (.type "NoneType")
 | bl (x:Bool):sH K H (.bl x) (.type "bool")
 | int (i:Int):sH K H (.int i) (.type "int")
 | str (x:Str):sH K H (.str x) (.type "str")
 | lst {a:Addr} {xs:List V} (e:H a=some (.lst xs)):sH K H (.ref a) (.type "list")
 | Bd {a:Addr} {o:Obj} {xs:List V} (e:H a=some (.Bd o (.lst xs))):sH K H (.ref a) (.type "list")
 | tup {a:Addr} {xs:List V} (e:H a=some (.tup xs)):sH K H (.ref a) (.type "tuple")
 | dK {a:Addr} {kvs:List (Key × V)} (e:H a=some (.dK kvs)):sH K H (.ref a) (.type "dict")
 | ins {a C dx:Addr} {fs:List (Str × V)} (e:H a=some (.ins C dx fs)) (cl:tD K C) (ha:PySem.W.findIn K (.ref C) "__class__"=some (some (.builtin "object.__class__")))
   (hn:PySem.W.specialIn K (.builtin "object.__class__") "__get__"=some (some (.builtin "getset_descriptor.__get__"))) (htk:PySem.W.takesIn K (.builtin "object.__class__")=some true)
   (hm:PySem.W.mroIn K C (.type "object")=some true):sH K H (.ref a) (.ref C)
end
structure bI (k:Nat) (A:Around):Prop where
 hd:A.handled=none
 dp:A.depth+3 * k+5<recursionLimit
 un:A.units+16 * k+200<cLine
 gd:A.guards=some []
theorem bI.mono {k:Nat} (r:bI k A) (h:j<=k):bI j A:=⟨r.hd,by have:=r.dp;omega,by have:=r.un;omega,r.gd⟩
theorem bI.deeper {k:Nat} {A:Around} (r:bI (k+1) A) (env:Env):bI k (A.deeper env):=
 ⟨r.hd,by have:=r.dp;show A.depth+1+3 * k+5<_;omega,by have:=r.un;show A.units+3+16 * k+200<_;omega,r.gd⟩
theorem Bo {A:Around}:(A.under (.builtin "type.__call__" ⟨.ref C::us,kw⟩)).depth=A.depth+1:=by
 first|rfl|simp [Around.under,Code.weight,Code.isCreation,Code.isGuard,Code.isCaller,Code.frames,Code.isFrame,guardIds]
theorem Bp {A:Around}:(A.under (.builtin "type.__call__" ⟨.ref C::us,kw⟩)).units=A.units+1:=by
 first|rfl|simp [Around.under,Code.cUnits,Code.frames,Code.isFrame]
theorem wI {A:Around}:(A.under (.builtin "type.__call__" ⟨.ref C::us,kw⟩)).guards=A.guards:=by
 cases h:A.guards<;>first|(show _=_;simp [Around.under,h,pushGuards,Code.guards,Code.isGuard,guardIds])|rfl
theorem bI.make {k:Nat} {A:Around} (r:bI (k+1) A) (C:Addr) (us:List Value) (n:List (Str × Value)):bI k (A.under (.builtin "type.__call__" ⟨.ref C::us,n⟩)):=
 ⟨r.hd,by have:=r.dp;rw [Bo];omega,by have:=r.un;rw [Bp];omega,by rw [wI];exact r.gd⟩
theorem bI.depth {k:Nat} {A:Around} (r:bI k A):A.depth<recursionLimit:=by have:=r.dp;omega
theorem bI.units {k:Nat} {A:Around} (r:bI k A):A.units+64<cLine:=by have:=r.un;omega
def Yq:TA:=λ_ H Q=>Q [] H
def Yr (z:TE) (n:TA):TA:=λσ H Q=>z σ H λx H1=>n σ H1 λxs H2=>Q (x::xs) H2
section
variable {X:Cx} {e:Expr} {es:List Expr} {te:TE} {t:TA} {pos:Pos}
theorem Ul:PA X [] Yq:=λ_ _ _ _ H Q I h=>Calls.spliced_nil ⟨[],H,I,.nil,h⟩
theorem Oi (U:PE X e te) (O:PA X es t) (J:starEach (e::es) X.env=(false,eval e X.env)::starEach es X.env:=by rfl):PA X (e::es) (Yr te t):=by
 intro pos pins s σ H Q I h
 rw [J]
 show wpAny _ _ (spliced ((false,eval e X.env)::backTo pos (starEach es X.env))) _ _ s
 refine Calls.spliced_cons (bh (U pins s σ H _ I h) λu z n=>?_)
 obtain ⟨x,H1,Z,D,q1⟩:=n
 exact bh (O pos pins z σ H1 _ Z q1) λus s2 n=>by obtain ⟨xs,H2,Y,B,q2⟩:=n;exact ⟨x::xs,H2,Y,.cons D B,q2⟩
def abI (t:TA):TE:=λσ H Q=>t σ H λxs H1=>xs.length<=sizeLine/\∀p,H1 p=none->Q (.ref p) (upd H1 p (.tup xs))
def abJ (t:TA):TE:=λσ H Q=>t σ H λxs H1=>xs.length<=sizeLine/\∀p,H1 p=none->Q (.ref p) (upd H1 p (.lst xs))
theorem Um {x1} (h:PA X es t):PE X (.Tuple es x1 pos) (abI t):=by
 intro pins s σ H Q I J
 refine wpAny_Tuple_spliced (bh (h pos pins s σ H _ I J) λD n ⟨xs,H1,B,r,z,q⟩=>⟨by rw [<-r.length];exact z,?_⟩)
 have hf:H1 n.heap.objs.size=none:=B.hok.fresh (zC _)
 refine ⟨.ref n.heap.objs.size,upd H1 n.heap.objs.size (.tup xs),B.laid (t':=n.toks) (λb u e=>zA _ e) (zC _) ?_,rfl,q _ hf⟩
 exact ⟨z,D,r,⟨_,zE _ rfl,rfl,_,rfl⟩⟩
theorem Uo (h:PA X es t):PE X (.List es pos) (abJ t):=by
 intro pins s σ H Q I J
 refine wpAny_List_spliced (bh (h pos pins s σ H _ I J) λD n ⟨xs,H1,B,r,z,q⟩=>⟨by rw [<-r.length];exact z,?_⟩)
 have hf:H1 n.heap.objs.size=none:=B.hok.fresh (zC _)
 refine ⟨.ref n.heap.objs.size,upd H1 n.heap.objs.size (.lst xs),B.laid (t':=n.toks) (λb u e=>zA _ e) (zC _) ?_,rfl,q _ hf⟩
 exact ⟨z,D,0,r,zE _ rfl⟩
end
abbrev Sp:=List V->Hp->VK->XK->Prop
abbrev FZ:=List Env->Hp->Shared->XK->Value->Shared->Prop
structure Bq (P:Program) (w:World) (K:PySem.W.Frag) (mg:Str->Option Value) (base:Heap) (A:Around) (outer:List Env) (s:Shared) (H:Hp):Prop where
 frames:A.frames=some outer
 mod:Mod K mg base
 bs:∀b o,base.get? b=some o->s.heap.get? b=some o/\H b=none
 Fv:base.objs.size<=s.heap.objs.size
 jF:s.heap.FunFrames base outer
 G9:∀b∈frs outer,H b=none
 hok:jE P w H s.heap
 bare:AllBare s.gens
def CE (outer:List Env) (P:Program) (w:World) (H:Hp) (s:Shared) (Q:VK) (u:Value) (s':Shared):Prop:=
 ∃v H',s'.os=s.os/\AllBare s'.gens/\Un (frs outer) [] H H' s.heap s'.heap/\jE P w H' s'.heap/\RelV v u/\Q v H'
def CR (CX:FZ) (outer:List Env) (P:Program) (w:World) (H:Hp) (s:Shared) (Q:VK) (E:XK) (r:Result) (s':Shared):Prop:=
 match r with
 | .ok (.ret u)=>CE outer P w H s Q u s'
 | .ok _=>False
 | .error e=>CX outer H s E e s'
structure bO (P:Program) (w:World) (K:PySem.W.Frag) (mg:Str->Option Value) (base:Heap) (CX:FZ) (k:Nat) (f:Addr) (fd:FuncData) (ps:List Str) (sp:Sp):Prop where
 len:∀vs H Q E,sp vs H Q E->vs.length=ps.length
 run:∀(A:Around) (outer:List Env) (s:Shared) (H:Hp) (args:Args) (us:List Value) (vs:List V) (Q:VK) (E:XK),bI k A->Bq P w K mg base A outer s H->BindsTo s fd args (ps.zip us)->Vals vs us->sp vs H Q E->
  codeAny (model P w) A (.call (.ref f) args) (CR CX outer P w H s Q E) s
theorem bO.imp {P:Program} {w:World} {K:PySem.W.Frag} {mg:Str->Option Value} {base:Heap} {CX:FZ} {k:Nat} {f:Addr} {fd:FuncData} {ps:List Str} {sp sp':Sp} (F:bO P w K mg base CX k f fd ps sp)
  (h:∀vs H Q E,sp' vs H Q E->sp vs H Q E):bO P w K mg base CX k f fd ps sp':=
 ⟨λvs H Q E q=>F.len vs H Q E (h _ _ _ _ q),λA outer s H args n vs Q E D I J z B=>F.run A outer s H args n vs Q E D I J z (h _ _ _ _ B)⟩
theorem Bq.make {P:Program} {w:World} {K:PySem.W.Frag} {mg:Str->Option Value} {base:Heap} {A:Around} {outer:List Env} {s:Shared} {H:Hp} (e:Bq P w K mg base A outer s H) (C:Addr) (us:List Value) (n:List (Str × Value)) :
  Bq P w K mg base (A.under (.builtin "type.__call__" ⟨.ref C::us,n⟩)) outer s H:=⟨by first|exact e.frames|(simpa [Around.under,Code.envs,Code.isFrame,pushEnvs] using e.frames),e.mod,e.bs,e.Fv,e.jF,e.G9,e.hok,e.bare⟩
section
variable {X:Cx} {pins:List (Addr × Obj)} {σ:St} {H:Hp} {s s':Shared}
theorem Inv.env0 (I:Inv X pins σ H s):Bq X.prog X.w X.K X.mg X.base X.A X.stack s H:=
 ⟨I.ok.frames,I.ok.mod,I.bs,yi I.ok.Fv I.sz,I.stack,I.uq,I.hok,I.bare⟩
theorem Inv.after (I:Inv X pins σ H s) (h:CE X.stack X.prog X.w H s Q u s'):EP X pins σ Q u s':=by
 obtain ⟨v,H',os,bare,un,hok,r,q⟩:=h
 obtain ⟨B,g,d,t,n⟩:=s'
 obtain rfl:n=s.os:=os
 exact ⟨v,H',I.call (h':=B) (g':=g) (d':=d) (t':=t) (ch:=[]) un hok bare (λb z=>absurd z (by simp)),r,q⟩
end
def RP (sp:Sp) (n:List V) (E:XK) (t:TA):TE:=λσ H Q=>t σ H λvs H1=>sp (vs++n) H1 Q E
def Ys (C:Addr) (m:Str) (sp:Sp) (n:List V) (E:XK) (z:TE) (t:TA):TE:=λσ H Q=>z σ H λx H1=>∃a dx fs,x=.ref a/\H1 a=some (.ins C dx fs)/\fs.lookup m=none /\
 t σ H1 λvs H2=>sp (x::(vs++n)) H2 Q E
def Yt (C:Addr) (sp:Sp) (n:List V) (E:XK) (t:TA):TE:=λσ H Q=>t σ H λvs H1=>∀x dx,H1 x=none->H1 dx=none->dx≠x->
 sp (.ref x::(vs++n)) (upd (upd H1 dx (.own x)) x (.ins C dx [])) (λv H2=>v=.non/\Q (.ref x) H2) E
def Binds (K:PySem.W.Frag) (fd:FuncData) (ps:List Str) (ds:List Value):Prop:=
 ∀(s:Shared) (n:List Value),K.In s.heap->(n++ds).length=ps.length->BindsTo s fd ⟨n,[]⟩ (ps.zip (n++ds))
theorem Binds.all {K:PySem.W.Frag} {fd:FuncData} {ps:List Str} (h:∀n:List Value,n.length=ps.length->bindArgs fd ⟨n,[]⟩=pure (ps.zip n)):Binds K fd ps []:=λs n _ z=>by
 rw [ya] at z ⊢
 exact .of_eq (h n z)
def Passes (CX:FZ) (X:Cx) (E:XK):Prop:=∀(pins:List (Addr × Obj)) (σ:St) (H:Hp) (s:Shared) (e:Value) (s':Shared),Inv X pins σ H s->CX X.stack H s E e s'->X.xe e s'
section
variable {X:Cx} {CX:FZ} {k:Nat} {f C:Addr} {fd:FuncData} {ps:List Str} {sp:Sp} {F_:List V} {ds:List Value} {E:XK} {x m:Str} {p pos apos:Pos} {e o:Expr} {es:List Expr} {ta:TE} {t:TA}
theorem Br (F:bO X.prog X.w X.K X.mg X.base CX k f fd ps sp) (D:bI k X.A) (O:Binds X.K fd ps ds) (hd:Vals F_ ds) (B:Passes CX X E)
  (I:Inv X pins σ H s) (r:Vals vs us) (h:sp (vs++F_) H Q E):wpAny (model X.prog X.w) X.A (call (.ref f) us) (EP X pins σ Q) X.xe s:=by
 have z:Vals (vs++F_) (us++ds):=r.append hd
 have J:(us++ds).length=ps.length:=by rw [<-z.length];exact F.len _ _ _ _ h
 refine wpAny_call (codeAny_mono (F.run X.A X.stack s H ⟨us,[]⟩ (us++ds) (vs++F_) Q E D I.env0 (O s us I.qj J) z h) λr s' n=>?_)
 cases r with
 | error e=>exact B pins σ H s e s' I n
 | ok fl=>
  cases fl with
  | ret u=>exact I.after n
  | next=>exact False.elim n
  | brk=>exact False.elim n
  | cont=>exact False.elim n
theorem Oj (F:bO X.prog X.w X.K X.mg X.base CX k f fd ps sp) (D:bI k X.A) (U:Gl X x) (J:X.mg x=some (.ref f)) (O:PySem.W.keepIn X.K (.ref f)=true) (Y:Binds X.K fd ps ds) (hd:Vals F_ ds) (B:Passes CX X E)
  (Z:PA X (e::es) t) (n:(x == ("__debug__":Str))=false:=by decide) (he:starEach (e::es) X.env=(false,eval e X.env)::starEach es X.env:=by rfl) (hpl:(backTo pos (starEach es X.env)).any (·.1)=false:=by rfl) :
  PE X (.Call (.Name x p) (e::es) [] pos) (RP sp F_ E t):=by
 intro pins s σ H Q I h
 refine yZ (jf I U J ?_ n)
 refine xj (h₀:=X.base) I.ok.mod.NQ O (bh (Z pos pins s σ H _ I h) λus s1 ⟨vs,H1,z,r,q⟩=>⟨z.qj,?_⟩) he hpl
 exact Br F D Y hd B z r q
theorem uA (he : PE X o ta) (c : tD X.K C) (z : Meth X.K C m f) (F : bO X.prog X.w X.K X.mg X.base CX k f fd ps sp) (hr : bI k X.A) (hb : Binds X.K fd ps ds) (hd : Vals F_ ds) (Y : Passes CX X E) (ha : PA X (e :: es) t)
    (n : starEach (e :: es) X.env = (false, eval e X.env) :: starEach es X.env := by rfl) (hpl : (backTo pos (starEach es X.env)).any (·.1) = false := by rfl)
    (Z : eval (.Call (.Attribute o m apos) (e :: es) [] pos) X.env = (do
      let ov ← eval o X.env
      standAt apos.atName
      let (f, first) ← holding [ov] (getMethod ov m pl)
      callWith pos f first (backTo pos (starEach (e :: es) X.env)) (backToKw pos (keywordEach [] X.env))) := by rfl) :
    PE X (.Call (.Attribute o m apos) (e :: es) [] pos) (Ys C m sp F_ E ta t) := by
  intro pins s σ H Q I h
  refine PySem.W.methodCall_KW (pl := pl) (bh (he pins s σ H _ I h) λu O J=>?_) Z
  obtain ⟨x, H1, D, U, a, dx, fs, ex, ea, l, q⟩:=J
  subst ex
  obtain rfl : u = Value.ref a := U
  refine lA D ea c z l ?_
  refine xj (first := [.ref a]) (h₀ := X.base) I.ok.mod.NQ z.kp (bh (ha pos pins O σ H1 _ D q) λus s2 ⟨vs, H2, B, r, q2⟩ => ⟨B.qj, ?_⟩) n hpl
  exact Br (us := .ref a :: us) (vs := .ref a :: vs) F hr hb hd Y B (.cons rfl r) q2
structure Mk (K:PySem.W.Frag) (C f:Addr):Prop where
 makes:PySem.W.makesIn K C=true
 init:PySem.W.findIn K (.ref C) "__init__"=some (some (.ref f))
 fn:PySem.W.isFn K (.ref f)=true
 kp:PySem.W.keepIn K (.ref C)=true
theorem HR {B:St} (M:Mk X.K C f) (F:bO X.prog X.w X.K X.mg X.base CX k f fd ps sp) (Z:bI (k+1) X.A) (hb:Binds X.K fd ps ds) (hd:Vals F_ ds)
  (Y:Passes CX X E) (I:Inv X pins B H s) (r:Vals vs us)
  (h:∀x dx,H x=none->H dx=none->dx≠x->sp (.ref x::(vs++F_)) (upd (upd H dx (.own x)) x (.ins C dx [])) (λv H2=>v=.non/\Q (.ref x) H2) E) :
  wpAny (model X.prog X.w) X.A (call (.ref C) us) (EP X pins B Q) X.xe s:=by
 have J:=h (s.heap.objs.size+1) s.heap.objs.size (I.hok.fresh (Nat.le_succ _)) (I.hok.fresh (zC _)) (zN (Nat.lt_succ_self _))
 have z:=Inv.made (C:=C) I
 have D:Vals (V.ref (s.heap.objs.size+1)::(vs++F_)) (Value.ref (s.heap.objs.size+1)::(us++ds)):=.cons rfl (r.append hd)
 have hl:(Value.ref (s.heap.objs.size+1)::us++ds).length=ps.length:=by
  have e:=D.length
  rw [F.len _ _ _ _ J] at e
  exact e.symm
 refine wpAny_call (HQ (f:=f) I.qj M.makes M.init (beq_iff_eq.mp M.fn) (codeAny_mono (F.run _ X.stack _ _ ⟨Value.ref (s.heap.objs.size+1)::us,[]⟩ (Value.ref (s.heap.objs.size+1)::(us++ds)) _ _ E (Z.make C us [])
  (z.env0.make C us []) (hb _ (Value.ref (s.heap.objs.size+1)::us) z.qj hl) D J) λr s' n=>?_))
 cases r with
 | error e=>exact Y pins B _ _ e s' z n
 | ok fl=>
  cases fl with
  | ret u=>
   obtain ⟨v,H',I3,O,ev,U⟩:=z.after n
   subst ev
   exact ⟨O,⟨V.ref (s.heap.objs.size+1),H',I3,rfl,U⟩⟩
  | next=>exact False.elim n
  | brk=>exact False.elim n
  | cont=>exact False.elim n
theorem HS (M:Mk X.K C f) (F:bO X.prog X.w X.K X.mg X.base CX k f fd ps sp) (B:bI (k+1) X.A) (J:Gl X x) (D:X.mg x=some (.ref C)) (O:Binds X.K fd ps ds) (hd:Vals F_ ds) (z:Passes CX X E)
  (n:(x == ("__debug__":Str))=false:=by decide):PE X (.Call (.Name x p) [] [] pos) (Yt C sp F_ E Yq):=by
 intro pins s σ H Q I h
 refine yZ (jf I J D ?_ n)
 exact PySem.W.callWith_K0 I.qj M.kp (HR (us:=[]) M F B O hd z I .nil h)
end
structure ao (N P:List Str) (sc:Scope):Prop where
 kind:sc.kind=.function
 co:sc.isCoroutine=false
 gen:sc.isGenerator=false
 nd:N.Nodup
 pre:N.take P.length=P
 par:∀x∈P,sc.names.lookup x=some .local\/sc.names.lookup x=some .cell
 Uq:∀y∈sc.names,y.2≠.free
theorem tE {z:Str->Option NameKind} {x:Str}:∀{binds:List (Str × Value)} {m:Str->Option Value},(∀v,(x,v) ∉ binds)->bindL z binds m x=m x
 | [],_,_=>rfl
 | (n,v)::r,m,h=>by
  unfold bindL
  rw [tE λw B=>h w (zr _ B)]
  split
  ·have:x≠n:=by rintro rfl;exact h v zn
   simp [this]
  ·rfl
theorem tG {z:Str->Option NameKind} {x:Str}:∀{binds:List (Str × Value)} {m:Str->Option Value},(∀v,(x,v) ∉ binds)->bindC z binds m x=m x
 | [],_,_=>rfl
 | (n,v)::r,m,h=>by
  unfold bindC
  rw [tG λw B=>h w (zr _ B)]
  split
  ·rfl
  ·have:x≠n:=by rintro rfl;exact h v zn
   simp [this]
theorem tH {n:Str->Option NameKind} {x:Str} {v:Value}:∀{P:List Str} {vs:List Value} {i:Nat} {m:Str->Option Value},P.Nodup->P[i]? = some x->vs[i]? = some v->n x=some .local->
  bindL n (P.zip vs) m x=some v
 | [],_,_,_,_,h,_,_=>by simp at h
 | _::_,[],_,_,_,_,h,_=>by simp at h
 | p::P,w::vs,0,m,nd,h1,h2,hk=>by
  simp at h1 h2;subst h1;subst h2
  show bindL n ((p,w)::P.zip vs) m p=_
  unfold bindL
  rw [tE λv z=>(yr.mp nd).1 (List.of_mem_zip z).1,zo hk]
  simp
 | p::P,w::vs,i+1,m,nd,h1,h2,hk=>by
  show bindL n ((p,w)::P.zip vs) m x=_
  unfold bindL
  exact tH (i:=i) (yr.mp nd).2 (by simpa using h1) (by simpa using h2) hk
theorem tK {n:Str->Option NameKind} {x:Str} {v:Value}:∀{P:List Str} {vs:List Value} {i:Nat} {m:Str->Option Value},P.Nodup->P[i]? = some x->vs[i]? = some v->n x≠some .local->
  bindC n (P.zip vs) m x=some v
 | [],_,_,_,_,h,_,_=>by simp at h
 | _::_,[],_,_,_,_,h,_=>by simp at h
 | p::P,w::vs,0,m,nd,h1,h2,hk=>by
  simp at h1 h2;subst h1;subst h2
  show bindC n ((p,w)::P.zip vs) m p=_
  unfold bindC
  rw [tG λv z=>(yr.mp nd).1 (List.of_mem_zip z).1,zi hk]
  simp
 | p::P,w::vs,i+1,m,nd,h1,h2,hk=>by
  show bindC n ((p,w)::P.zip vs) m x=_
  unfold bindC
  exact tK (i:=i) (yr.mp nd).2 (by simpa using h1) (by simpa using h2) hk
def start (N:List Str) (vs:List V):St:=vs.map some++List.replicate (N.length - vs.length) none
def d9 (CX:FZ) (P:Program) (w:World) (K:PySem.W.Frag) (mg:Str->Option Value) (base:Heap) (N:List Str) (z:Str) (n:Scope) (f:Addr) (D:Value) (A:Around) (outer:List Env) (s:Shared) (H:Hp) (E:XK):Cx where
 prog:=P
 w:=w
 K:=K
 mg:=mg
 base:=base
 A:=A.deeper (envOfC z n s.heap.objs.size f D)
 N:=N
 s₀:=s
 H₀:=H
 env:=envOfC z n s.heap.objs.size f D
 outer:=outer
 stack:=envOfC z n s.heap.objs.size f D::outer
 ex:=[]
 calm:=true
 fn:=λ_=>true
 pn:=[]
 xe:=λe s'=>wpAny (model P w) (A.deeper (envOfC z n s.heap.objs.size f D)) (leaving (envOfC z n s.heap.objs.size f D) e) (λ_ B=>CX outer H s E e B) (λI B=>CX outer H s E I B) s'
theorem wJ {z:Scope} {n:Nat} {x:Str} (h:z.names.lookup x=some .cell):∃c,(cellsFrom n z.names []).lookup x=some c:=by
 have q:=PySem.W.cellsFrom_some z.names n [] (.inl h)
 exact yS.mp q
theorem Ga {CX:FZ} {P:Program} {w:World} {K:PySem.W.Frag} {mg:Str->Option Value} {base:Heap} {N ps:List Str} {D:Str} {B:Scope} {f:Addr} {Z:Value} {A:Around} {outer:List Env} {s s1:Shared} {H:Hp} {E:XK} {us:List Value} {vs:List V}
  (S:ao N ps B) (hd:A.handled=none) (I:Bq P w K mg base A outer s H) (hl:vs.length=ps.length) (r:Vals vs us)
  (x:InCallC s s.heap.objs.size (bindL (envOfC D B s.heap.objs.size f Z).kindOf (ps.zip us) λ_=>none) (cellsFrom (s.heap.objs.size+1) B.names []) (bindC (envOfC D B s.heap.objs.size f Z).kindOf (ps.zip us) λ_=>none) s1) :
  Inv (d9 CX P w K mg base N D B f Z A outer s H E) [] (start N vs) H s1:=by
 have hpl:ps.length<=N.length:=by have:=zV List.length S.pre;rw [yG] at this;omega
 obtain ⟨h1,tk,rfl,hk⟩:=x.done
 have J:∀b:Addr,b ∉ (d9 CX P w K mg base N D B f Z A outer s H E).ex:=λb z=>absurd (show b∈([]:List Addr) from z) (by simp)
 refine ⟨⟨I.mod,S.kind,rfl,rfl,zC _,λy z c h1 h2=>?_,λy O=>?_,λy c _ h=>?_,λ_=>hd,Around.frames_deeper I.frames,.inr ⟨rfl,rfl⟩,λb z=>absurd z (J b),I.bs,I.Fv,λb _ _=>J b,λb z=>absurd z (J b),I.jF,I.G9⟩,
  rfl,I.bare,Un.kept hk,⟨_,x.toInCall.ns,λi y v h1 h2 h3=>?_⟩,λy c h=>⟨_,x.cell y c h⟩,I.hok.fresh (zC _),λy c h=>?_,λp Y=>absurd (show p∈([]:List (Addr × Obj)) from Y) (by simp),I.hok.kept hk,?_⟩
 ·exact name_of_addr x.apart (yV h1) (yV h2)
 ·have O:B.names.lookup y=some .cell\/B.names.lookup y=some .free:=O
  rcases O with O|O
  ·exact wJ O
  ·exact absurd rfl (S.Uq _ (yV O))
 ·exact xD (x.above y c (yV h))
 ·have hi:i<vs.length:=by
   unfold start at h2
   by_cases hi:i<vs.length
   ·exact hi
   ·rw [yf (by simpa using hi)] at h2
    rw [zX] at h2
    split at h2<;>cases h2
  have ha:vs[i]? = some v:=by
   unfold start at h2
   rw [zS (by simpa using hi),zP] at h2
   cases e:vs[i]? with
   | none=>rw [e] at h2;cases h2
   | some a=>rw [e] at h2;cases (h2);rfl
  obtain ⟨u,hu,rv⟩:=r.get ha
  have Y:ps[i]? = some y:=by
   rw [<-S.pre,List.getElem?_take_of_lt (by omega)];exact h1
  have U:ps.Nodup:=by rw [<-S.pre];exact S.nd.sublist (List.take_sublist _ _)
  refine ⟨u,rv,?_⟩
  rcases S.par y (yH Y) with k|k
  ·exact .inl ⟨k,tH U Y hu k⟩
  ·obtain ⟨c,e⟩:=wJ (n:=s.heap.objs.size+1) k
   refine .inr ⟨.inl k,c,e,?_⟩
   have q:=x.cell y c e
   rw [tK U Y hu (by show B.names.lookup y≠_;rw [k];decide)] at q
   exact q
 ·exact I.hok.fresh (xD (x.above y c (yV h)))
 ·unfold start
  show _=N.length
  rw [zt,z9,zF]
  omega
theorem RQ {CX:FZ} {P:Program} {w:World} {K:PySem.W.Frag} {mg:Str->Option Value} {base:Heap} {k:Nat} {f:Addr} {name B:Str} {O:Arguments} {body:List Stmt} {z:Scope} {dV kV doc pm D ct oc:Value} {an od:Option Addr}
  {osl:Array (Option Value)} {N ps:List Str} {sp:Sp} (lk:K.lookup f=some ⟨oc,od,.func (PySem.W.fnOf name B O body z dV kV doc pm an D ct),osl⟩) (hcd:PySem.W.codeIn K D B=true) (S:ao N ps z)
  (len:∀vs H Q E,sp vs H Q E->vs.length=ps.length)
  (Y:∀(A:Around) (outer:List Env) (s:Shared) (H:Hp) (vs:List V) (Q:VK) (E:XK),bI k (A.deeper (envOfC B z s.heap.objs.size f D))->sp vs H Q E->
   ∃t,fX (d9 CX P w K mg base N B z f D A outer s H E) body t/\t { nx:=λ_ H'=>Q .non H',rt:=Q } (start N vs) H) :
  bO P w K mg base CX (k+1) f (PySem.W.fnOf name B O body z dV kV doc pm an D ct) ps sp:=by
 refine ⟨len,λA outer s H args us vs Q E hr e0 hb r hsp=>?_⟩
 have hl:=len _ _ _ _ hsp
 have KX:K.In s.heap:=e0.mod.NQ.keeps λb o e=>(e0.bs b o e).1
 have lim:s.heap.NoLimit:=e0.mod.nolimit.keeps λb o e=>(e0.bs b o e).1
 have U:∀y∈ps.zip us,z.names.lookup y.1=some .local\/(z.names.lookup y.1=some .cell/\((cellsFrom (s.heap.objs.size+1) z.names []).lookup y.1).isSome=true):=λ⟨n,v⟩ hy=>by
  rcases S.par n (List.of_mem_zip hy).1 with q|q
  ·exact .inl q
  ·exact .inr ⟨q,PySem.W.cellsFrom_some _ _ _ (.inl q)⟩
 refine codeAny_call_function hr.depth (KX _ _ lk) rfl S.co S.gen rfl (PySem.W.codeRec_of KX hcd) (hb _ _ _ _ ?_)
 refine wpAny_newFunctionEnv_cells S.kind U λenv he s1 x=>?_
 subst he
 refine ⟨lim.keeps x.toInCall.keep,codeAny_func ?_⟩
 obtain ⟨t,ht,hq⟩:=Y A outer s H vs Q E (hr.deeper _) hsp
 have I:Inv (d9 CX P w K mg base N B z f D A outer s H E) [] (start N vs) H s1:=Ga S hr.hd e0 hl r x
 refine xo (ht [] s1 (start N vs) H _ I hq) (λfl s' Z=>?_) λe s' Z=>Z
 have fin:∀{σ':St} {H':Hp} {v:V} {u:Value},Inv (d9 CX P w K mg base N B z f D A outer s H E) [] σ' H' s'->RelV v u->Q v H'->CE outer P w H s Q u s':=
  λ{σ' H' v u} J rv q=>⟨v,H',J.os,J.bare,J.base,J.hok,rv,q⟩
 cases fl with
 | ret u=>
  obtain ⟨v,σ',H',J,rv,q⟩:=Z
  exact fin J rv q
 | next=>
  obtain ⟨σ',H',J,q⟩:=Z
  exact fin (v:=V.non) (u:=Value.none) J rfl q
 | brk=>
  obtain ⟨_,_,_,q⟩:=Z
  exact False.elim q
 | cont=>
  obtain ⟨_,_,_,q⟩:=Z
  exact False.elim q
section
variable {X:Cx} {x:Str} {p pos:Pos} {e:Expr} {es:List Expr} {t:TA} {id T:String} {r:List V->Hp->VK->Prop}
def tCB (r:List V->Hp->VK->Prop) (t:TA):TE:=λσ H Q=>t σ H λvs H1=>r vs H1 Q
theorem fj (hc:gn X (.builtin id) r) (Z:Gl X x) (Y:X.mg x=none) (O:bootBuiltins x=some (.builtin id)) (ha:PA X (e::es) t) (U:x≠"__name__":=by decide) (n:(x == ("__debug__":Str))=false:=by decide)
  (he:starEach (e::es) X.env=(false,eval e X.env)::starEach es X.env:=by rfl) (hpl:(backTo pos (starEach es X.env)).any (·.1)=false:=by rfl):PE X (.Call (.Name x p) (e::es) [] pos) (tCB r t):=by
 intro pins s σ H Q I h
 refine yZ (gm I Z Y O ?_ U n)
 exact PyProof.Rows.callWith_builtin1 (bh (ha pos pins s σ H _ I h) λB D z=>by obtain ⟨vs,H1,I1,J,q1⟩:=z;exact hc pins D σ H1 vs B Q I1 J q1) he hpl
theorem nR (hc:gn X (.type T) r) (Z:Gl X x) (Y:X.mg x=none) (O:bootBuiltins x=some (.type T)) (ha:PA X (e::es) t) (U:x≠"__name__":=by decide) (n:(x == ("__debug__":Str))=false:=by decide)
  (he:starEach (e::es) X.env=(false,eval e X.env)::starEach es X.env:=by rfl) (hpl:(backTo pos (starEach es X.env)).any (·.1)=false:=by rfl):PE X (.Call (.Name x p) (e::es) [] pos) (tCB r t):=by
 intro pins s σ H Q I h
 refine yZ (gm I Z Y O ?_ U n)
 exact yc (bh (ha pos pins s σ H _ I h) λB D z=>by obtain ⟨vs,H1,I1,J,q1⟩:=z;exact hc pins D σ H1 vs B Q I1 J q1) he hpl
end
end L2
namespace HT
open PySem PyProof.Rows
section
variable {prog:Program} {w:World} {A:Around} {E:Value->Shared->Prop} {s:Shared}
def vW (n d:Nat):Option Int->Nat
 | none=>d
 | some v=>if v<0 then (v+(n:Int)).toNat else min v.toNat n
end
end HT
namespace L2
open PySem PySem.Spec PyProof.Rows
abbrev TO:=St->Hp->(Option Int->Hp->Prop)->Prop
def PO (X:Cx) (e:Option Expr) (t:TO):Prop:=
 ∀(pins:List (Addr × Obj)) (s:Shared) (σ:St) (H:Hp) (Q:Option Int->Hp->Prop),Inv X pins σ H s->t σ H Q->
  wpAny (model X.prog X.w) X.A (evalPart e X.env) (λu s'=>∃o H',Inv X pins σ H' s'/\IsPart u o/\Q o H') X.xe s
def Yu (t:TE):TO:=λσ H Q=>t σ H λx H1=>∃i,x=.int i/\Q (some i) H1
section
variable {X:Cx} {e:Expr} {te:TE} {lo hi:Option Expr} {tl th:TO} {pos p2:Pos}
theorem Ol (h:PE X e te):PO X (some e) (Yu te):=by
 intro pins s σ H Q I B
 rw [evalPart_some]
 refine bh (h pins s σ H _ I B) λu J n=>?_
 obtain ⟨x,H1,D,z,q1⟩:=n
 obtain ⟨i,rfl,q⟩:=q1
 obtain ⟨t,rfl⟩:=z
 exact ⟨some i,H1,D,.int i t,q⟩
def SlR (X:Cx) (r:V->Option Int->Option Int->Hp->VK->Prop):Prop:=
 ∀(pins:List (Addr × Obj)) (s:Shared) (σ:St) (H:Hp) (x:V) (v vl vu:Value) (lo hi:Option Int) (sl:Addr) (Q:VK),Inv X pins σ H s->RelV x v->s.heap.IsSliceOf sl vl vu .none->IsPart vl lo->IsPart vu hi->r x lo hi H Q->
  ∃T id,typeLookup (.type T) "__getitem__"=pure (some (.builtin id))/\s.TypeIs v T/\wpAny (model X.prog X.w) X.A (getItem v (.ref sl)) (EP X pins σ Q) X.xe s
def tSl (r:V->Option Int->Option Int->Hp->VK->Prop) (B:TE) (n z:TO):TE:=λσ H Q=>B σ H λx H1=>n σ H1 λl H2=>z σ H2 λu D=>r x l u D Q
theorem HW {r:V->Option Int->Option Int->Hp->VK->Prop} (hr:SlR X r) (he:PE X e te) (hl:PO X lo tl) (hu:PO X hi th):PE X (.Subscript e (.Slice lo hi none p2) pos) (tSl r te tl th):=by
 intro pins s σ H Q I h
 refine Subscript_ (bh (he pins s σ H _ I h) λv U D=>?_)
 obtain ⟨x,H1,I1,Y,q1⟩:=D
 refine wpAny_Slice (bh (hl pins U σ H1 _ I1 q1) λB O ⟨l,H2,I2,pl,q2⟩=>bh (hu pins O σ H2 _ I2 q2) λz n D=>?_)
 obtain ⟨u,J,I3,pu,Z⟩:=D
 rw [evalPart_none]
 refine zG ?_
 have I4:Inv X pins σ J { n with heap:=n.heap.push { cls:=.type "slice",data:=.fields #[B,z,.none] } }:=I3.kept (t':=n.toks) λb ob q=>zA _ q
 obtain ⟨T,id,hT,ht,hg⟩:=hr pins { n with heap:=n.heap.push { cls:=.type "slice",data:=.fields #[B,z,.none] } } σ J x v B z l u n.heap.objs.size Q I4 Y (Heap.IsSliceOf.new ..) pl pu Z
 show wpAny (model X.prog X.w) X.A (subscriptTail e (.Slice lo hi none p2) v (.ref n.heap.objs.size)) (EP X pins σ Q) X.xe { n with heap:=n.heap.push { cls:=.type "slice",data:=.fields #[B,z,.none] } }
 exact tail_any (ops:=[.ref n.heap.objs.size,v]) ht hT hg (by with_unfolding_all rfl)
def Gb (xs:List V) (lo hi:Option Int):List V:=(xs.drop (HT.vW xs.length 0 lo)).take (HT.vW xs.length xs.length hi - HT.vW xs.length 0 lo)
theorem wK (xs:List V) (lo hi:Option Int):(Gb xs lo hi).length<=xs.length:=by
 unfold Gb
 rw [yG,yM]
 omega
end
def wL (n:Nat) (i:Int):Option Nat:=if 0<=i then (if i<n then some i.toNat else none) else if -(n:Int)<=i then some (i+n).toNat else none
def h_ {α:Type} (xs:List α) (i:Int):Option α:=(wL xs.length i).bind λj=>xs[j]?
theorem Du {n:Nat} {i:Int} {j:Nat} (h:wL n i=some j):seqIndex? i n=some j/\j<n/\-(n:Int)<=i/\i<n:=by
 unfold wL at h
 by_cases h0:0<=i
 ·rw [zo h0] at h
  by_cases h1:i<n
  ·rw [zo h1] at h
   have e:i.toNat=j:=yl h
   exact ⟨by rw [seqIndex_of h0 h1,e],by omega,by omega,h1⟩
  ·rw [zi h1] at h;cases h
 ·rw [zi h0] at h
  by_cases h1:-(n:Int)<=i
  ·rw [zo h1] at h
   have e:(i+n).toNat=j:=yl h
   exact ⟨by rw [seqIndex_neg (by omega) h1,e],by omega,h1,by omega⟩
  ·rw [zi h1] at h;cases h
theorem uB {α:Type} {xs:List α} {i:Int} {v:α} (h:h_ xs i=some v):∃j,seqIndex? i xs.length=some j/\xs[j]? = some v/\j<xs.length/\-(xs.length:Int)<=i/\i<xs.length:=by
 unfold h_ at h
 cases e:wL xs.length i with
 | none=>rw [e] at h;cases h
 | some j=>
  rw [e] at h
  obtain ⟨h1,h2,z,n⟩:=Du e
  exact ⟨j,h1,h,h2,z,n⟩
theorem j4 {α:Type} {xs:List α} {j:Nat} {v:α} (h:xs[j]? = some v):h_ xs (j:Int)=some v:=by
 have n:j<xs.length:=(zx.mp h).1
 have e:wL xs.length (j:Int)=some j:=by
  unfold wL
  rw [zo (by omega),zo (by omega)];simp
 unfold h_;rw [e];exact h
def mK (b:Expr):Prop:=∀o i,subscripted b false o i=operate [o,i] (getItem o i)
def Nt (X:Cx) (r:R2):Prop:=
 ∀(value n:Expr) (pins:List (Addr × Obj)) (s:Shared) (σ:St) (H:Hp) (x y:V) (v u:Value) (Q:VK),Inv X pins σ H s->RelV x v->RelV y u->r x y H Q->
  subscripted n false v u=operate [v,u] (getItem v u)->wpAny (model X.prog X.w) X.A (subscriptTail value n v u) (EP X pins σ Q) X.xe s
def XH (X:Cx) (n:String) (r:V->List V->Hp->VK->Prop):Prop:=
 ∀(pins:List (Addr × Obj)) (s:Shared) (σ:St) (H:Hp) (x:V) (xs:List V) (v:Value) (us:List Value) (Q:VK),Inv X pins σ H s->RelV x v->Vals xs us->r x xs H Q->
  wpAny (model X.prog X.w) X.A (call (.builtin n) (v::us)) (EP X pins σ Q) X.xe s
section
variable {X:Cx} {a b:Expr} {ta tb:TE} {pos:Pos}
theorem Nt.or {D:R2} (h:Nt X r) (h':Nt X D):Nt X (λx y H Q=>r x y H Q\/D x y H Q):=by
 intro value n pins s σ H x y v u Q I B z q J
 rcases q with q|q
 ·exact h value n pins s σ H x y v u Q I B z q J
 ·exact h' value n pins s σ H x y v u Q I B z q J
theorem HX (J:Nt X r) (U:PE X a ta) (O:PE X b tb) (D:mK b):PE X (.Subscript a b pos) (Yn r ta tb):=by
 intro pins s σ H Q I h
 exact Subscript_ (N_ U O I h λv u n x y H2 Y B z q=>J a b pins n σ H2 x y v u Q Y B z q (D _ _))
def Ur (K:PySem.W.Frag):R2:=λx y H Q=>∃p xs i v,x=.ref p/\y=.int i/\iI K H p xs/\h_ xs i=some v/\Q v H
def Yv (K:PySem.W.Frag):R2:=λx y H Q=>∃p xs i v,x=.ref p/\y=.int i/\Dq K H p xs/\h_ xs i=some v/\Q v H
def abL:R2:=λx y H Q=>∃z i c,x=.str z/\y=.int i/\z.length<=sizeLine/\h_ z.cps.toList i=some c/\Q (.str ⟨#[c]⟩) H
theorem Dv:Nt X (Ur X.K):=by
 intro value n pins s σ H x y v u Q I Z Y h O
 obtain ⟨p,xs,i,z,rfl,rfl,hq,he,q⟩:=h
 cases Z
 obtain ⟨t,rfl⟩:=Y
 obtain ⟨D,r,pl,hz⟩:=I.list hq
 obtain ⟨j,h1,h2,h3,h4,h5⟩:=uB he
 obtain ⟨w,U,B⟩:=r.get h2
 have hl:=r.length
 have hn:=lz
 have fin:EP X pins σ Q w s:=⟨z,H,I,B,q⟩
 by_cases h0:0<=i
 ·have J:i.toNat=j:=by
   rw [seqIndex_of h0 h5] at h1
   exact yl h1
  exact item_listR pl.isList h0 (by omega) (by rw [J];simpa using U) fin O
 ·have J:(i+(D.toArray.size:Int)).toNat=j:=by
   rw [seqIndex_neg (by omega) h4] at h1
   rw [zH,<-hl]
   exact yl h1
  exact subscriptTail_builtinR (x:=w) pl.isList.typeIs slot_list_getitem.lookup
   (wpAny_getItem_list_neg (Q:=λr s'=>r=w/\EP X pins σ Q r s') pl.isList (by omega) (by rw [zH]<;>omega) (by omega) (by rw [J];simpa using U) ⟨rfl,fin⟩) O
theorem Us:Nt X (Yv X.K):=by
 intro value n pins s σ H x y v u Q I J D h U
 obtain ⟨p,xs,i,z,rfl,rfl,Y,he,q⟩:=h
 cases J
 obtain ⟨t,rfl⟩:=D
 obtain ⟨O,r,pl,hz⟩:=I.tuple Y
 obtain ⟨j,h1,h2,h3,h4,h5⟩:=uB he
 obtain ⟨w,ew,B⟩:=r.get h2
 have Z:=r.length
 have hn:=lz
 have fin:EP X pins σ Q w s:=⟨z,H,I,B,q⟩
 exact subscriptTail_builtinR (x:=w) pl.typeIs slot_tuple_getitem.lookup
  (getItem_tuple (j:=j) (Q:=λr s'=>r=w/\EP X pins σ Q r s') pl (by omega) (by omega) (by rw [zH,<-Z];exact h1) (by simpa using ew) ⟨rfl,fin⟩) U
theorem Ut:Nt X abL:=by
 intro value n pins s σ H x y v u Q I D B h J
 obtain ⟨z,i,c,rfl,rfl,hz,U,q⟩:=h
 obtain ⟨t,rfl⟩:=D
 obtain ⟨t',rfl⟩:=B
 obtain ⟨j,h1,h2,h3,Z,Y⟩:=uB U
 have O:z.cps.toList.length=z.length:=by simp [Str.length]
 rw [O] at h1 Z Y
 have hn:=lz
 exact tail_any (typeIs_str s z t) slot_str_getitem.lookup (getItem_str (c:=c) (by
  have e1:decide (i < -(2 ^ 63:Int))=false:=zQ (by omega)
  have e2:decide (i>=2 ^ 63)=false:=zQ (by omega)
  rw [e1,e2,Bool.or_false]) (by rw [h1];simpa using h2) ⟨.str ⟨#[c]⟩,H,I.tok _,⟨_,rfl⟩,q⟩) J
theorem Bs (z:List Value) (n j:Nat) (u:Value):Obj.mapSeq (·.setIfInBounds j u) { cls:=.type "list",data:=.seq z.toArray n }={ cls:=.type "list",data:=.seq (z.set j u).toArray n }:=by
 simp [Obj.mapSeq]
theorem Inv.lst {D:List (Addr × Obj)} {J:St} {H:Hp} {s:Shared} {p:Addr} {xs:List V} (I:Inv X D J H s) (h:H p=some (.lst xs)) :
  ∃(B:List Value) (n:Nat),Vals xs B/\s.heap.get? p=some { cls:=.type "list",data:=.seq B.toArray n }/\xs.length<=sizeLine:=by
 obtain ⟨z,B,n,r,e⟩:=I.hok p _ h
 exact ⟨B,n,r,e,z⟩
theorem Inv.Uu {s:Shared} {B:List V} {z its':List Value} (I:Inv X pins σ H s) (h:H p=some (.lst xs))
  (J:s.heap.get? p=some { cls:=.type "list",data:=.seq z.toArray n }) (hf:f { cls:=.type "list",data:=.seq z.toArray n }={ cls:=.type "list",data:=.seq its'.toArray n' }) (r:Vals B its') (D:B.length<=sizeLine) (t:Nat) :
  Inv X pins σ (upd H p (.lst B)) { s with heap:=s.heap.update p f,toks:=t }:=by
 have e:(s.heap.update p f).get? p=some { cls:=.type "list",data:=.seq its'.toArray n' }:=by
  rw [Heap.get?_update_self f J (by rw [hf]<;>rfl),hf]
 refine I.write (x:=p) (e:=p) (by rw [h];trivial) (.inl rfl) (λb u O q=>(xd _ _ (Ne.symm O)).trans q) ⟨_,e⟩ ?_
 exact ⟨D,its',n',r,e⟩
def Yw:V->V->V->Hp->(Hp->Prop)->Prop:=λo i v H Q=>∃p xs k j,o=.ref p/\i=.int k/\H p=some (.lst xs)/\wL xs.length k=some j/\Q (upd H p (.lst (xs.set j v)))
theorem set_list:TY X Yw:=by
 intro pins s σ H o i v ov iv u Q I ro ri rv h
 obtain ⟨p,xs,k,j,rfl,rfl,O,hj,q⟩:=h
 cases ro
 obtain ⟨t,rfl⟩:=ri
 obtain ⟨z,n,r,B,hz⟩:=I.lst O
 obtain ⟨h1,h2,Y,U⟩:=Du hj
 have D:=r.length
 have hn:=lz
 have Z:Inv X pins σ (upd H p (.lst (xs.set j v))) { s with heap:=s.heap.update p (Obj.mapSeq (·.setIfInBounds j u)) }:=
  I.Uu O B (Bs z n j u) (r.set rv j) (by rw [ye];exact hz) s.toks
 by_cases h0:0<=k
 ·have J:k.toNat=j:=by
   rw [seqIndex_of h0 U] at h1
   exact yl h1
  exact PySem.W.ki_setAt B h0 (by omega) (by rw [zH,<-D];exact U) (by rw [J];exact ⟨_,Z,q⟩)
 ·have J:(k+(z.toArray.size:Int)).toNat=j:=by
   rw [seqIndex_neg (by omega) Y] at h1
   rw [zH,<-D]
   exact yl h1
  exact PySem.W.ki_setBack B (by omega) (by rw [zH,<-D];exact Y) (by omega) (by rw [J];exact ⟨_,Z,q⟩)
theorem uC (lo hi:Option Int) (n:Nat):(sliceBounds lo hi none n).1=((HT.vW n 0 lo:Nat):Int)/\(sliceBounds lo hi none n).2.1=((HT.vW n n hi:Nat):Int)/\(sliceBounds lo hi none n).2.2=1:=by
 refine ⟨?_,?_,rfl⟩
 ·cases lo with
  | none=>simp [sliceBounds,HT.vW]
  | some i=>
   simp only [sliceBounds,HT.vW,Option.getD_none,show (1:Int) > 0 by decide,if_true]
   by_cases h:i<0
   ·simp only [h,if_true]<;>omega
   ·simp only [h,if_false]<;>omega
 ·cases hi with
  | none=>simp [sliceBounds,HT.vW]
  | some i=>
   simp only [sliceBounds,HT.vW,Option.getD_none,show (1:Int) > 0 by decide,if_true]
   by_cases h:i<0
   ·simp only [h,if_true]<;>omega
   ·simp only [h,if_false]<;>omega
theorem sI (n:List Value) (lo hi:Option Int):slicePick n.toArray lo hi none=((n.drop (HT.vW n.length 0 lo)).take (HT.vW n.length n.length hi - HT.vW n.length 0 lo)).toArray:=by
 obtain ⟨h1,h2,z⟩:=uC lo hi n.toArray.size
 unfold slicePick
 rw [h1,h2,z]
 simp only [sliceRange_one,pick_run,zH]<;>rfl
def Yx (K:PySem.W.Frag):V->Option Int->Option Int->Hp->VK->Prop:=λx lo hi H Q=>∃a xs,x=.ref a/\iI K H a xs/\∀p,H p=none->Q (.ref p) (upd H p (.lst (Gb xs lo hi)))
theorem Om:SlR X (Yx X.K):=by
 intro pins s σ H x v vl Z lo hi sl Q I B Y pl D h
 obtain ⟨a,xs,rfl,U,q⟩:=h
 cases B
 obtain ⟨J,r,z,O⟩:=I.list U
 have n:=r.length
 refine ⟨"list",_,slot_list_getitem.lookup,z.isList.typeIs,?_⟩
 refine wpAny_getItem_list_slice z.isList Y pl D .none (by simp) ?_ (by rw [zH]<;>omega)
 rw [sI,<-n]
 refine ⟨.ref s.heap.objs.size,_,I.laid (t':=s.toks) (o:=.lst (Gb xs lo hi)) (λb ob q=>zA _ q) (zC _) ?_,rfl,q _ (I.hok.fresh (zC _))⟩
 exact ⟨yi (wK xs lo hi) O,_,0,(r.drop (HT.vW xs.length 0 lo)).take (HT.vW xs.length xs.length hi - HT.vW xs.length 0 lo),zE _ rfl⟩
theorem uD:g8 X (compareOp .NotIn) (λx y H Q=>∃i j,x=.str i/\y=.str j/\Q (.bl (!(!(Builtin.Str.occurrences j i 0 j.length 1).isEmpty))) H):=by
 intro pins s σ H x y v u Q I z n h
 obtain ⟨i,j,rfl,rfl,q⟩:=h
 obtain ⟨t,rfl⟩:=z
 obtain ⟨B,rfl⟩:=n
 exact notIn_str ⟨.bl _,H,I,rfl,q⟩
theorem uE:gn X (.builtin "len") (λxs H Q=>∃p ys,xs=[.ref p]/\(iI X.K H p ys\/Dq X.K H p ys)/\Q (.int ys.length) H):=by
 intro pins s σ H xs U Q I r h
 obtain ⟨p,ys,rfl,z,q⟩:=h
 obtain ⟨u,rfl,J⟩:=vals1 r
 cases J
 have Y:=lz
 rcases z with z|z
 ·obtain ⟨D,B,pl,O⟩:=I.list z
  have n:=B.length
  exact Calls.call_len_list pl.isList (by simp only [zH]<;>omega) ⟨.int ys.length,H,I.tok _,⟨s.toks+1,by rw [zH,n]⟩,q⟩
 ·obtain ⟨D,B,pl,O⟩:=I.tuple z
  have n:=B.length
  exact len_tuple pl (by simp only [zH]<;>omega) ⟨.int ys.length,H,I.tok _,⟨s.toks+1,by rw [zH,n]⟩,q⟩
theorem uF:gn X (.builtin "len") (λxs H Q=>∃z,xs=[.str z]/\z.length<=sizeLine/\Q (.int z.length) H):=by
 intro pins s σ H xs n Q I r h
 obtain ⟨z,rfl,B,q⟩:=h
 obtain ⟨u,rfl,t,rfl⟩:=vals1 r
 have D:=lz
 exact len_str (by omega) ⟨.int z.length,H,I.tok _,⟨_,rfl⟩,q⟩
def XJ (K:PySem.W.Frag) (T:String) (x:V) (H:Hp):Prop:=match x with
 | .str _=>T="str"
 | .int _=>T="int"
 | .ref p=>(T="list"/\∃xs,iI K H p xs)\/(T="tuple"/\∃o,K.lookup p=some o/\o.cls=.type "tuple"/\o.dict=none)\/(T="dict"/\∃n,H p=some (.dK n))
 | _=>False
theorem HY {B:List (Addr × Obj)} {s:Shared} (I:Inv X B σ H s) (r:RelV x v) (ty:XJ X.K T x H) :
  s.TypeIs v T/\∀a,v=.ref a->∃J,s.heap.get? a=some J/\J.dict=none:=by
 cases x with
 | str z=>
  obtain ⟨t,rfl⟩:=r
  cases (show T="str" from ty)
  exact ⟨typeIs_str s z t,λ_ e=>nomatch e⟩
 | int i=>
  obtain ⟨t,rfl⟩:=r
  cases (show T="int" from ty)
  exact ⟨typeIs_int s i t,λ_ e=>nomatch e⟩
 | ref p=>
  cases r
  rcases ty with ⟨rfl,xs,Y⟩|⟨rfl,o,D,Z,hd⟩|⟨rfl,O,D⟩
  ·obtain ⟨U,_,pl,_⟩:=I.list Y
   refine ⟨pl.isList.typeIs,λa e=>?_⟩
   cases e
   obtain ⟨o,n,e,c,hd,_⟩:=pl
   exact ⟨o,e,hd⟩
  ·refine ⟨⟨o,I.qj p o D,Z⟩,λa e=>?_⟩
   cases e
   exact ⟨o,I.qj _ o D,hd⟩
  ·obtain ⟨_,_,_,_,o,_,_,e,ex,_⟩:=I.hok p _ D
   exact ⟨⟨o,e,ex.1⟩,λa e2=>by cases e2;exact ⟨o,e,ex.2.1⟩⟩
 | _=>exact False.elim ty
def abM (K:PySem.W.Frag) (T:String) (r:V->List V->Hp->VK->Prop) (n:TE):TE:=λσ H Q=>n σ H λx H1=>XJ K T x H1/\r x [] H1 Q
def tBM (K:PySem.W.Frag) (T:String) (r:V->List V->Hp->VK->Prop) (n:TE) (t:TA):TE:=λσ H Q=>n σ H λx H1=>XJ K T x H1/\t σ H1 λxs H2=>r x xs H2 Q
variable {o e:Expr} {es:List Expr} {to:TE} {t:TA} {name:Str} {apos cpos:Pos} {T id:String} {r:V->List V->Hp->VK->Prop}
theorem Uv (Y:PlainAttrs T) (slot:Slot T name id) (B:typeOf (.builtin id)=pure (.type "method_descriptor")) (hm:XH X id r) (Z:PE X o to)
  (z:attributeBase o name X.env (eval o X.env)=eval o X.env:=by rfl) (n:(apos.endLine == cpos.line)=true:=by rfl):PE X (.Call (.Attribute o name apos) [] [] cpos) (abM X.K T r to):=by
 intro pins s σ H Q I h
 refine wpAny_Call_method0_late z n (bh (Z pins s σ H _ I h) λv U O=>?_)
 obtain ⟨x,H1,J,D,ty,q1⟩:=O
 obtain ⟨h1,h2⟩:=HY J D ty
 exact ⟨T,id,Y,slot,B,h1,h2,Calls.callWith_builtin rfl (PySem.evalArgs_none (hm pins U σ H1 x [] v [] Q J D .nil q1))⟩
theorem H_ (pa:PlainAttrs T) (slot:Slot T name id) (O:typeOf (.builtin id)=pure (.type "method_descriptor")) (hm:XH X id r) (ho:PE X o to) (ha:PA X (e::es) t)
  (B:attributeBase o name X.env (eval o X.env)=eval o X.env:=by rfl)
  (D:((backTo cpos (starEach (e::es) X.env)).all (λx=>!x.1) && (backToKw cpos (keywordEach [] X.env)).all (λx=>x.1.isSome)
   && decide ((e::es).length+([]:List Keyword).length+(if ([]:List Keyword).isEmpty then 0 else 1)<30))=true:=by rfl)
  (z:(apos.endLine == cpos.line)=true:=by rfl) (hs:starEach (e::es) X.env=(false,eval e X.env)::starEach es X.env:=by rfl) (n:(backTo cpos (starEach es X.env)).any (·.1)=false:=by rfl) :
  PE X (.Call (.Attribute o name apos) (e::es) [] cpos) (tBM X.K T r to t):=by
 intro pins s σ H Q I h
 refine wpAny_Call_method_late B D z rfl (bh (ho pins s σ H _ I h) λv s1 J=>?_)
 obtain ⟨x,H1,Y,U,ty,q1⟩:=J
 obtain ⟨h1,h2⟩:=HY Y U ty
 refine ⟨T,id,pa,slot,O,h1,h2,?_⟩
 have hA:=ha cpos pins s1 σ H1 _ Y q1
 rw [hs] at hA ⊢
 refine Calls.callWith_builtin (by show (false || (backTo cpos (starEach es X.env)).any (·.1))=false;rw [n]<;>rfl) (Calls.evalArgs_plain ?_)
 exact bh hA λZ s2 J=>by obtain ⟨vs,H2,I2,r2,q2⟩:=J;exact hm pins s2 σ H2 x vs v Z Q I2 U r2 q2
/- xs.append(e),list.index on a module's tuple .. are XH facts of 06m -/
end
def MtM (X:Cx) (n:String) (r:V->List V->Hp->VK->Prop):Prop:=
 ∀(pins:List (Addr × Obj)) (s:Shared) (σ:St) (H:Hp) (x:V) (xs:List V) (v:Value) (us:List Value) (Q:VK),Inv X pins σ H s->RelV x v->Vals xs us->r x xs H Q->
  wpAny (model X.prog X.w) X.A (call (.builtin n) (v::us)) (EP X pins σ Q) X.xe s
theorem Vals.one:∀{x:V} {n:List Value},Vals [x] n->∃u,n=[u]/\RelV x u
 | _,_,.cons r .nil=>⟨_,rfl,r⟩
theorem Vals.zero:∀{n:List Value},Vals [] n->n=[]
 | _,.nil=>rfl
theorem Vals.dropLast {xs:List V} {us:List Value} (h:Vals xs us):Vals xs.dropLast us.dropLast:=by
 induction h with
 | nil=>exact .nil
 | cons r t ih=>
  cases t with
  | nil=>exact .nil
  | cons q t'=>exact .cons r ih
theorem Vals.eraseIdx:∀{xs:List V} {n:List Value} (i:Nat),Vals xs n->Vals (xs.eraseIdx i) (n.eraseIdx i)
 | _,_,_,.nil=>.nil
 | _,_,0,.cons _ t=>t
 | _,_,i+1,.cons r t=>.cons r (Vals.eraseIdx i t)
theorem Vals.reverse {xs:List V} {us:List Value} (h:Vals xs us):Vals xs.reverse us.reverse:=by
 induction h with
 | nil=>exact .nil
 | cons r t ih=>rw [yu,yu];exact Vals.append ih (.cons r .nil)
theorem Vals.rep (h:Vals xs us):∀k:Nat,Vals (List.replicate k xs).flatten (List.replicate k us).flatten
 | 0=>.nil
 | k+1=>by
  rw [zU,zU,x8,x8]
  exact Vals.append h (Vals.rep h k)
theorem Bt {α:Type} (l:List α):l.eraseIdx (l.length - 1)=l.dropLast:=by
 induction l with
 | nil=>rfl
 | cons a r ih=>
  cases r with
  | nil=>rfl
  | cons b r=>
   have e:(a::b::r).length - 1=((b::r).length - 1)+1:=by
    have h1:(a::b::r).length=r.length+2:=rfl
    have h2:(b::r).length=r.length+1:=rfl
    omega
   rw [e,List.eraseIdx_cons_succ,ih]
   all_goals rfl
theorem foldl_rep (n:List Value):∀(k:Nat) (z:List Value),
  List.foldl (λD B=>D++B) z.toArray (List.replicate k n.toArray)=(z++(List.replicate k n).flatten).toArray
 | 0,z=>by simp
 | k+1,z=>by
  have e:z.toArray++n.toArray=(z++n).toArray:=by simp
  have e2:(z++n)++(List.replicate k n).flatten=z++(List.replicate (k+1) n).flatten:=by
   rw [zU,x8,yt]
  rw [<-e2,<-foldl_rep n k (z++n),<-e,zU,List.foldl_cons]
section
variable {X:Cx} {pins:List (Addr × Obj)} {σ:St} {H:Hp} {s:Shared} {l b:Addr} {xs ys zs:List V}
theorem Inv.Oo {z its':List Value} (I:Inv X pins σ H s) (U:H l=some (.lst xs))
  (e:s.heap.get? l=some { cls:=.type "list",data:=.seq z.toArray n }) (hf:f z.toArray=its'.toArray) (D:Vals ys its') (B:ys.length<=sizeLine) :
  Inv X pins σ (upd H l (.lst ys)) { s with heap:=s.heap.update l (Obj.mapSeq f),toks:=t' }:=by
 have q:=PySem.IsL.update e f
 rw [hf] at q
 refine I.write (x:=l) (e:=l) (by rw [U];exact trivial) (.inl rfl) (λY u O J=>(xd s.heap (Obj.mapSeq f) (Ne.symm O)).trans J) ⟨_,q⟩ ?_
 exact ⟨B,its',_,D,q⟩
theorem Inv.Yy {n:List Value} (I:Inv X pins σ H s) (B:Vals ys n) (z:ys.length<=sizeLine) :
  Inv X pins σ (upd H s.heap.objs.size (.lst ys)) { s with heap:=s.heap.push { cls:=.type "list",data:=.seq n.toArray },toks:=t' }:=
 I.laid (λ_ _ q=>zA _ q) (zC _) ⟨z,n,0,B,zE _ rfl⟩
theorem Inv.fresh (I:Inv X pins σ H s):H s.heap.objs.size=none:=I.hok.fresh (zC _)
theorem Inv.wM (I:Inv X pins σ H s) (D:H l=some (.lst xs)):xs.length<=sizeLine/\∃(B:List Value) (n:Nat),Vals xs B/\xs.length=B.length/\s.heap.get? l=some { cls:=.type "list",data:=.seq B.toArray n }:=by
 obtain ⟨z,B,n,r,e⟩:=I.hok l _ D
 exact ⟨z,B,n,r,r.length,e⟩
theorem wN (h:n<=sizeLine):Builtin.List.listTooLong n=false:=by
 unfold Builtin.List.listTooLong
 exact zQ (by omega)
end
section
variable {X:Cx}
def Oq:V->List V->Hp->VK->Prop:=λx vs H Q=>∃l xs y,x=.ref l/\vs=[y]/\H l=some (.lst xs)/\xs.length<sizeLine/\Q .non (upd H l (.lst (xs++[y])))
theorem Gd:MtM X "list.append" Oq:=by
 intro pins s σ H x vs v Y Q I J O h
 obtain ⟨l,xs,y,rfl,rfl,D,Z,q⟩:=h
 cases J
 obtain ⟨u,rfl,U⟩:=O.one
 obtain ⟨z,B,n,r,hl,e⟩:=I.wM D
 refine xg F.slot_list_append ⟨_,e,rfl⟩ F.entry_list_append (F.args_list_append_2 _ _) (PySem.list_append l B.toArray n u (by rw [zH];omega)) ⟨e,?_⟩
 refine ⟨.non,_,I.Oo (its':=B++[u]) D e (by simp) (r.append (.cons U .nil)) ?_,rfl,q⟩
 rw [zt,yj]
 omega
def Ot:V->List V->Hp->VK->Prop:=λx vs H Q=>∃l b xs zs,x=.ref l/\vs=[.ref b]/\H l=some (.lst xs)/\H b=some (.lst zs)/\xs.length+zs.length<=sizeLine/\Q .non (upd H l (.lst (xs++zs)))
theorem XM:MtM X "list.extend" Ot:=by
 intro pins s σ H x vs v us Q I Y Z h
 obtain ⟨l,b,xs,zs,rfl,rfl,U,hB,hz,q⟩:=h
 cases Y
 obtain ⟨u,rfl,ru⟩:=Z.one
 cases ru
 obtain ⟨z,D,n,r,hl,e⟩:=I.wM U
 obtain ⟨z2,B,n2,r2,hl2,e2⟩:=I.wM hB
 have O:D.toArray.size+B.toArray.size<=sizeLine:=by rw [zH,zH];omega
 have J:¬(!D.toArray.isEmpty && Builtin.List.listTooLong (D.toArray.size+B.toArray.size))=true:=by
  rw [wN O,Bool.and_false]
  exact yg
 refine xg F.slot_list_extend ⟨_,e,rfl⟩ F.entry_list_extend (F.args_list_extend_2 _ _)
  (AutoSeq1.list_extend_list_list_0 l D.toArray n b B.toArray n2 J (by rw [zH];omega) (by omega)) ⟨e,e2,?_⟩
 refine ⟨.non,_,I.Oo (its':=D++B) U e (by simp) (r.append r2) ?_,rfl,q⟩
 rw [zt]
 omega
def abN:V->List V->Hp->VK->Prop:=λx vs H Q=>∃l xs y,x=.ref l/\vs=[]/\H l=some (.lst xs)/\xs[xs.length - 1]? = some y/\Q y (upd H l (.lst xs.dropLast))
theorem abO:MtM X "list.pop" abN:=by
 intro pins s σ H x vs v us Q I U Y h
 obtain ⟨l,xs,y,rfl,rfl,O,hy,q⟩:=h
 cases U
 have J:=Y.zero
 subst J
 obtain ⟨z,B,n,r,hl,e⟩:=I.wM O
 obtain ⟨u,hu,Z⟩:=r.get hy
 have D:B.toArray[B.toArray.size - 1]? = some u:=by
  show B.toArray[B.length - 1]? = some u
  rw [<-Array.getElem?_toList,<-hl]
  exact hu
 refine xg F.slot_list_pop ⟨_,e,rfl⟩ F.entry_list_pop (F.args_list_pop_1 _) (MeetsSeq.list_pop_last l B.toArray n u D (by rw [zH];omega)) ⟨e,?_⟩
 refine ⟨y,_,I.Oo (its':=B.dropLast) O e ?_ r.dropLast ?_,Z,q⟩
 ·show B.toArray.eraseIdxIfInBounds (B.toArray.size - 1)=B.dropLast.toArray
  rw [zH,List.eraseIdxIfInBounds_toArray,Bt]
 ·rw [List.length_dropLast]
  omega
def Ia:V->List V->Hp->VK->Prop:=λx vs H Q=>∃l xs,x=.ref l/\vs=[]/\H l=some (.lst xs)/\Q .non (upd H l (.lst xs.reverse))
theorem Bu:MtM X "list.reverse" Ia:=by
 intro pins s σ H x vs v Y Q I O U h
 obtain ⟨l,xs,rfl,rfl,J,q⟩:=h
 cases O
 have D:=U.zero
 subst D
 obtain ⟨z,B,n,r,Z,e⟩:=I.wM J
 refine xg F.slot_list_reverse ⟨_,e,rfl⟩ F.entry_list_reverse (F.args_list_reverse_1 _) (AutoSeq1.list_reverse_list_0 l B.toArray n (by rw [zH];omega)) ⟨e,?_⟩
 refine ⟨.non,_,I.Oo (its':=B.reverse) J e (by simp) r.reverse ?_,rfl,q⟩
 rw [yT]
 omega
def abP:R2:=λx y H Q=>∃l b xs zs,x=.ref l/\y=.ref b/\H l=some (.lst xs)/\H b=some (.lst zs)/\xs.length+zs.length<=sizeLine/\∀p,H p=none->Q (.ref p) (upd H p (.lst (xs++zs)))
theorem Uw:g8 X (binaryOp .Add) abP:=by
 intro pins s σ H x y v u Q I O J h
 obtain ⟨l,b,xs,zs,rfl,rfl,Z,hB,hz,q⟩:=h
 cases O
 cases J
 obtain ⟨z,D,n,r,hl,e⟩:=I.wM Z
 obtain ⟨z2,B,n2,U,Y,e2⟩:=I.wM hB
 refine PySem.P.add_list e e2 ?_ (by rw [zH,zH];omega)
 have ea:D.toArray++B.toArray=(D++B).toArray:=by simp
 rw [ea]
 exact ⟨.ref _,_,I.Yy (t':=s.toks) (r.append U) (by rw [zt];omega),rfl,q _ I.fresh⟩
def abQ:R2:=λx y H Q=>∃l k xs,x=.ref l/\y=.int k/\H l=some (.lst xs)/\-(2 ^ 63)<=k/\k<2 ^ 63/\xs.length * k.toNat<=sizeLine /\
 ∀p,H p=none->Q (.ref p) (upd H p (.lst (List.replicate k.toNat xs).flatten))
theorem len_rep {α:Type} (xs:List α) (k:Nat):(List.replicate k xs).flatten.length=k * xs.length:=by
 induction k with
 | zero=>simp
 | succ k ih=>rw [zU,x8,zt,ih,Nat.succ_mul,Nat.add_comm]
theorem Ux:g8 X (binaryOp .Mult) abQ:=by
 intro pins s σ H x y v u Q I rx ry h
 obtain ⟨l,k,xs,rfl,rfl,hH,h1,h2,hz,q⟩:=h
 cases rx
 obtain ⟨t,rfl⟩:=ry
 obtain ⟨z,B,n,r,hl,e⟩:=I.wM hH
 have O:B.toArray.size * k.toNat<=sizeLine:=by rw [zH,<-hl];exact hz
 have Z:¬B.toArray.size * k.toNat > (2 ^ 63 - 1) / 8:=by
  have:(sizeLine:Nat)<=(2 ^ 63 - 1) / 8:=by decide
  omega
 have Y:¬(!Builtin.List.listFitsIndex k)=true:=by
  rw [fitsIndex_both h1 h2]
  exact yg
 have D:¬Builtin.List.listTooLong (B.toArray.size * k.toNat)=true:=by
  rw [wN O]
  exact yg
 have J:List.foldl (λx1 x2=>x1++x2) #[] (List.replicate (if B.toArray.isEmpty=true then 0 else k.toNat) B.toArray)=(List.replicate k.toNat B).flatten.toArray:=by
  have f0:∀m:Nat,List.foldl (λx1 x2=>x1++x2) #[] (List.replicate m B.toArray)=(List.replicate m B).flatten.toArray:=λm=>by
   have:=foldl_rep B m []
   rw [List.nil_append] at this
   exact this
  rw [f0]
  cases B with
  | nil=>simp
  | cons a r'=>rw [zi (by simp)]
 refine wpAny_binaryOp_repeat_ref (T:="list") (U:="int") (by decide) ⟨_,e,rfl⟩ (λs'=>typeIs_int s' k t) noFill_list_mul F.fills_int_mul F.slot_int_rmul repeat_list F.slot_int_index.lookup
  (xg F.slot_int_rmul (typeIs_int s k t) F.entry_int_rmul (F.args_int_rmul_2 _ _) (int___rmul___int_list k t l B.toArray n)
   ⟨e,rfl,⟨_,e,rfl⟩,xg F.slot_list_mul ⟨_,e,rfl⟩ F.entry_list_mul (F.args_list_mul_2 _ _) (AutoListH.list___mul___list_int_3 l B.toArray n k t Y Z D) ⟨e,?_⟩⟩)
 rw [J]
 exact ⟨.ref _,_,I.Yy (t':=s.toks) (r.rep k.toNat) (by rw [len_rep,Nat.mul_comm];exact hz),rfl,q _ I.fresh⟩
end
end L2
namespace Att
open PySem PySem.W PySem.Calls PyProof.Rows
theorem pF:∀(ns:List Int) (vs:List Value),WellAll P h vs (ns.map WData.int)->IntsAre vs ns:=by
 intro ns
 induction ns with
 | nil=>
  intro vs w
  rw [List.map_nil] at w
  cases w
  exact .nil
 | cons n ns ih=>
  intro vs w
  rw [yq] at w
  cases w with
  | cons a b=>
   cases a
   exact .cons _ _ (ih _ b)
theorem Ge {l:OpenLaw} (Y:l.most=some n) {h:Heap}
  (z:l.row.toRowW.claim.pre args=true) (J:WellAll P h vals args) :
  ∃a vs ns,vals=[Value.ref a]/\args=[WData.list (ns.map WData.int)]/\h.get? a=some { cls:=.type "list",data:=.seq vs.toArray }/\IntsAre vs ns/\ns.length<=n:=by
 have O:WShape.hasAll [] args [.list .int]=true:=(pre_splitW z).1
 have U:l.pre.holds [] { args:=args }=true:=(pre_splitW z).2
 obtain ⟨d,r,rfl,h1,h2⟩:=hasAllW_cons O
 obtain rfl:=hasAllW_nil h2
 obtain ⟨xs,rfl,Z⟩:=hasW_list h1
 obtain ⟨ns,rfl⟩:=items_int Z
 have B:ns.length<=n:=by
  unfold OpenLaw.pre at U
  have I:(WTm.not (.lt (.lit (.int (n:Int))) (.len (.arg 0)))).holds [] { args:=[.list (ns.map .int)] }=true:=by
   have I:=(holds_andW U).1
   rw [Y] at I
   exact I
  have D:=condW_of I (w_not (w_lt w_lit (w_len_list (w_arg rfl))))
  rw [z9] at D
  refine xE λq=>?_
  have q':(n:Int)<((ns.length:Nat):Int):=by omega
  first
   | (rw [zW q'] at D;exact absurd D (by decide))
   | (simp at D;omega)
 cases J with
 | cons w1 w2=>
  cases w2
  cases w1 with
  | list ho hall=>exact ⟨_,_,ns,rfl,rfl,ho,pF ns _ hall,B⟩
theorem Gf (l:OpenLaw) (args:List WData):l.row.toRowW.claim.post args (.bool true) args=true:=
 postW_of (r:=l.row.toRowW) (X:=(true == true))
  (show WShape.has [] (.bool true) .bool=true by first|rfl|decide|simp [WShape.has,WShape.arms,WShape.armsAll])
  (show (WTm.eq .res (.lit (.bool true))).value [] { args:=args,res:=some (.bool true),after:=args }=some (.bool (true == true)) from w_eq_bool (w_res rfl) w_lit) rfl
theorem wQ {l:OpenLaw} {d:DefRec}
  (hn:l.most=some n) (hdf:d.params.defaults=[])
  (call:∀(w:World) (s₀ z:Shared) (mg mb:Str->Option Value) (U:Addr) (o:Obj) (Z cd D:Value) (a:Addr) (vs:List Value) (ns:List Int),
   Ground q loose [] XP w s₀ mg mb z.heap->YP w z.heap->
   z.heap.get? U=some o->o.data=.func (docDef d.name d.params d.body d.scope Z cd D)->z.heap.CodeRec cd d.name->mg d.name=some (.ref U)->
   z.heap.get? a=some { cls:=.type "list",data:=.seq vs.toArray }->IntsAre vs ns->ns.length<=n->z.gens=#[]->
   codeAny (model l.prog w) callerA (.call (.ref U) ⟨[.ref a],[]⟩) (λr s'=>r=.ok (.ret (.bool true))/\OldK z.heap s'.heap/\s'.os=z.os/\AllBare s'.gens) z) :
  WalkO q loose XP YP l.row.toRowW d [] (λf vs=>PySem.call f vs):=by
 intro w s₀ z mg mb G Y U o Z cd D dV kV ho hd hcd hD hmg hg args vals as I hlay hrd hwl hlo
 obtain rfl:dV=.none:=Dflts.none hD hdf
 obtain rfl:kV=.none:=Dflts.noKw hD
 obtain ⟨a,vs,ns,rfl,rfl,J,B,O⟩:=Ge hn I hwl
 refine enter_call (codeAny_mono (call w s₀ z mg mb U o Z cd D a vs ns G Y ho (fd_plain hd) hcd hmg J B O hg) λr s' hq=>?_)
 obtain ⟨rfl,h2,h3,h4⟩:=hq
 exact ⟨.inl ⟨.bool true,.bool true,[],rfl,λ_=>rfl,.bool true,Gf l _,λ_=>⟨List.Pairwise.nil,λ_ hm=>(nomatch hm)⟩⟩,h2,h3,h4⟩
end Att
namespace L2
open PySem PySem.Spec PyProof.Rows
theorem nU:∀{vs:List Value} {ns:List Int},IntsAre vs ns->Vals (ns.map V.int) vs
 | _,_,.nil=>.nil
 | _,_,.cons n t h=>.cons ⟨t,rfl⟩ (nU h)
def Only (H:Hp):Prop:=∀b,H b=none\/∃o xs,H b=some (.Bd o (.lst xs))
theorem Ib {P:Program} {w:World} {K:PySem.W.Frag} {mg mb:Str->Option Value} {CX:FZ} {k:Nat} {fa a:Addr} {fd:FuncData} {x:Str} {sp:Sp} {s₁:Shared} {vs:List Value} {ns:List Int}
  (KX:K.In s₁.heap) (hns:s₁.heap.Ns mainGlobals mg) (D:s₁.heap.Ns builtinsNs mb) (hbb:∀x:Str,x≠"__name__"->mb x=bootBuiltins x) (hlim:s₁.heap.NoLimit) (hg:s₁.gens=#[])
  (ha:s₁.heap.get? a=some { cls:=.type "list",data:=.seq vs.toArray }) (hi:IntsAre vs ns) (hl:ns.length<=sizeLine) (hr:bI k callerA)
  (F:∀base:Heap,K.In base->base.Ns mainGlobals mg->bO P w K mg base CX k fa fd [x] sp) (O:∀(s:Shared) (u:Value),BindsTo s fd ⟨[u],[]⟩ [(x,u)])
  (hsp:∀H:Hp,Only H->iI K H a (ns.map V.int)->sp [.ref a] H (λv _=>v=.bl true) λ_ _ _=>False)
  (hCX:∀H e s',CX [] H s₁ (λ_ _ _=>False) e s'->False) :
  codeAny (model P w) callerA (.call (.ref fa) ⟨[.ref a],[]⟩) (λr s'=>r=.ok (.ret (.bool true))/\OldK s₁.heap s'.heap/\s'.os=s₁.os/\AllBare s'.gens) s₁:=by
 have rv:=nU hi
 have Y:=hi.length
 -- from an abstract heap in which nothing but the script may be tracked
 have J:∀H:Hp,Only H->iI K H a (ns.map V.int)->jE P w H s₁.heap->(∀b,H b≠none->b=a)->(H a≠none->K.lookup a=none)->
   codeAny (model P w) callerA (.call (.ref fa) ⟨[.ref a],[]⟩) (λr s'=>r=.ok (.ret (.bool true))/\OldK s₁.heap s'.heap/\s'.os=s₁.os/\AllBare s'.gens) s₁:=by
  intro H hO hS hok hA hK
  have B:∀{b:Addr} {o:Obj},s₁.heap.get? b=some o->H b=none->(um s₁.heap H).get? b=some o:=λe n=>Hl e n
  have noA:∀{b:Addr} {o:Obj} {es:Array DictEntry} {ep:Nat},s₁.heap.get? b=some o->o.data=.dict es ep->H b=none:=λ{b o es ep} e d=>by
   cases q:H b with
   | none=>rfl
   | some u=>
    have e':b=a:=hA b (by rw [q];simp)
    subst e'
    rw [ha] at e;cases e
    have d':Data.seq vs.toArray _=Data.dict es ep:=d
    cases d'
  have I:∀{b:Addr} {m:Str->Option Value},s₁.heap.Ns b m->(um s₁.heap H).Ns b m:=λ{b m} ⟨o,es,ep,e,d,r⟩=>⟨o,es,ep,B e (noA e d),d,r⟩
  have hKb:K.In (um s₁.heap H):=λb o e=>B (KX b o e) (by
   cases q:H b with
   | none=>rfl
   | some u=>
    have e':b=a:=hA b (by rw [q];simp)
    subst e'
    rw [hK (by rw [q];simp)] at e;cases e)
  have hM:Mod K mg (um s₁.heap H):=⟨hKb,I hns,⟨mb,I D,hbb⟩,let ⟨mc,h1,h2⟩:=hlim;⟨mc,I h1,h2⟩⟩
  have e0:Bq P w K mg (um s₁.heap H) callerA [] s₁ H:=⟨rfl,hM,λb o e=>NK e,Nat.le_of_eq (Ft _ _),trivial,λb D=>absurd (show b∈([]:List Addr) from D) (by simp),hok,.of_eq hg⟩
  refine codeAny_mono ((F _ hKb (I hns)).run callerA [] s₁ H ⟨[.ref a],[]⟩ [.ref a] [.ref a] _ _ hr e0 (O s₁ (.ref a)) (.cons rfl .nil) (hsp H hO hS)) λr s' h=>?_
  cases r with
  | error e=>exact (hCX H e s' h).elim
  | ok fl=>
   cases fl with
   | next=>exact False.elim h
   | brk=>exact False.elim h
   | cont=>exact False.elim h
   | ret u=>
    obtain ⟨v,H',os,bare,un,Z,r',q⟩:=h
    have q':v=.bl true:=q
    subst q'
    obtain rfl:u=Value.bool true:=r'
    refine ⟨rfl,OldK.of_keep λb o e=>?_,os,bare⟩
    cases q:H b with
    | none=>exact un.keep b o e q (by intro z;exact absurd (show b∈([]:List Addr) from z) (by simp)) (by simp)
    | some u=>
     rcases hO b with z|⟨ob,xs,z⟩
     ·rw [q] at z;cases z
     ·have z2:=un.qg b ob _ z
      obtain ⟨e1,_⟩:=hok b _ z
      obtain ⟨e2,_⟩:=Z b _ z2
      rw [e] at e1;cases e1
      exact e2
 cases hk:K.lookup a with
 | some o=>
  -- the script is one of the module's own objects
  have e:=KX a o hk
  rw [ha] at e
  cases e
  refine J (λ_=>none) (λ_=>.inl rfl) (.inr ⟨_,vs.toArray,_,hk,rfl,rfl,rfl,by rw [zH,Y];exact hl,by simpa using rv⟩) (λb u z=>by have U:(none:Option HO)=some u:=z;cases U) (λb z=>absurd rfl z) λz=>absurd rfl z
 | none=>
  refine J (λb=>if b=a then some (.Bd { cls:=.type "list",data:=.seq vs.toArray } (.lst (ns.map V.int))) else none) (λb=>?_) (.inl (.inr ⟨{ cls:=.type "list",data:=.seq vs.toArray },zo rfl⟩)) (λb u z=>?_) (λb z=>?_) λ_=>hk
  ·by_cases D:b=a
   ·exact .inr ⟨_,_,zo D⟩
   ·exact .inl (zi D)
  ·by_cases D:b=a
   ·have U:=(zo D).symm.trans z
    cases U
    subst D
    exact ⟨ha,by rw [z9];exact hl,vs,_,rv,ha⟩
   ·have U:=(zi D).symm.trans z
    cases U
  ·by_cases D:b=a
   ·exact D
   ·exact absurd (zi D) z
theorem Dw {l:PySem.W.OpenLaw} {n k:Nat} {q:Program} {B:List Str} {XP:(Str->Option Value)->Heap->Prop} {YP:World->Heap->Prop} {d:DefRec} {K:Params->PySem.W.Frag} {CX:World->FZ} {sp:World->Sp} {x:Str}
  (hn:l.most=some n) (Z:n<=sizeLine) (hdf:d.params.defaults=[]) (hr:bI k callerA)
  (hY:∀(w:World) (h:Heap),YP w h->(K w.params).In h)
  (F:∀(w:World) (mg:Str->Option Value) (O:Addr) (h:Heap),(K w.params).In h->h.Ns mainGlobals mg->mg d.name=some (.ref O)->
   ∃fd:FuncData,(∀(s:Shared) (u:Value),BindsTo s fd ⟨[u],[]⟩ [(x,u)]) /\
    ∀base:Heap,(K w.params).In base->base.Ns mainGlobals mg->bO l.prog w (K w.params) mg base (CX w) k O fd [x] (sp w))
  (U:∀(w:World) (H:Hp) (a:Addr) (ns:List Int),ns.length<=n->Only H->iI (K w.params) H a (ns.map V.int)->sp w [.ref a] H (λv _=>v=.bl true) λ_ _ _=>False)
  (hCX:∀(w:World) (H:Hp) (s:Shared) (e:Value) (s':Shared),CX w [] H s (λ_ _ _=>False) e s'->False) :
  PySem.W.WalkO q B XP YP l.row.toRowW d [] (λf vs=>PySem.call f vs):=by
 refine Att.wQ hn hdf λw s₀ I mg mb O o pm cd doc a vs ns G Y ho hd hcd hmg J D z hg=>?_
 have KX:=hY w _ Y
 obtain ⟨fd,hb,hF⟩:=F w mg O _ KX G.T.g hmg
 exact Ib KX G.T.g G.T.b G.T.builtins G.T.nolimit hg J D (yi z Z) hr hF hb (λH hO hS=>U w H a ns z hO hS) λH e s'=>hCX w H I e s'
end L2
/- THE LAST THEOREM (shape;LID,My.* are aeL):
  My.Adr: a structure of the addresses that your layer names (classes,functions);My.Txt K t: a structure (Prop) of the equations over K;
  My.Uy:{K} {implicit addresses ..} (e1:nsIn K mainGlobals "law"=some (some (.ref f))) (e2:K.lookup f=some ⟨oc,od,.func (fnOf "law" "law" params body scope dV kV doc pm an cdv ct),sl⟩) (e3:codeIn K cdv "law"=true) ..:∃t,My.Txt K t
set_option maxRecDepth 100000 in
set_option maxHeartbeats 0 in
theorem PySem.Challenge.cw_LID_holds : PySem.Challenge.rw_LID.Holds := by
 w_on;o_law;k_head;(case hw=>w_witness2)
 k_fill
 refine L2.Dw (l:=PySem.Challenge.rw_LID) (n:=63) (k:=40) (x:="script") (CX:=λw=>..) (sp:=λ_=>My.abS) rfl (by decide) rfl ⟨rfl,by decide,by decide⟩ (λw h Y=>PySem.W.kIn_of Y) ?F ?S ?C
 case F=>
  intro w mg fa h KX G hmg
  have T:∃t,My.Txt (L2.KOf KX) t:=by
   dsimp only [L2.KOf]                          -- K must stand as «<heap const> w.params» for k_is
   refine' My.Uy ?e1 ?e2 ?e3 ..
   (case e1=>PySem.W.k_is)                    -- in the order: a name -> its address -> its object -> its parts
   (case e2=>PySem.W.k_is)
   ..
  obtain ⟨t,T⟩:=T
  have e0:=hmg.symm.trans (PySem.W.mg_of KX G T.law)
  cases e0                                       -- fa is the law's own address
  exact ⟨_,λs u=>.of_eq rfl,λbase kb nb=>My.Uz T kb nb⟩     -- if «.of_eq rfl» comes too early: refine' ⟨_,?b,λbase kb nb=>My.Uz T kb nb⟩;exact λs u=>.of_eq rfl
 case S=>exact λw H a ns hl hO hS=>..
 case C=>exact ..
(the tactic k_is has no namespace: write k_is) -/
namespace L2
open PySem PySem.Spec PyProof.Rows
def j6 (s:Stmt):Arguments:=match s with
 | .FunctionDef _ a _ _ _ _ _ _ _ _=>a
 | _=>{ posonlyargs:=[],args:=[],vararg:=none,kwonlyargs:=[],kw_defaults:=[],kwarg:=none,defaults:=[] }
def cY (s:Stmt):List Stmt:=match s with
 | .FunctionDef _ _ b _ _ _ _ _ _ _=>b
 | _=>[]
def aa (s:Stmt):Scope:=match s with
 | .FunctionDef _ _ _ _ _ _ sc _ _ _=>sc
 | _=>{ kind:=.function,names:=[],isGenerator:=false,isCoroutine:=false }
abbrev lB:FZ:=λ_ _ _ _ _ _=>False
abbrev E0:XK:=λ_ _ _=>False
theorem tL {X:Cx}:Passes lB X E0:=λ_ _ _ _ _ _ _ h=>h.elim
structure sy (K:PySem.W.Frag) (x qual:Str) (st:Stmt) (f:Addr) (fd:FuncData):Prop where
 ex:∃(oc:Value) (od:Option Addr) (kV doc pm:Value) (an:Option Addr) (cdv ct:Value) (osl:Array (Option Value)),
  fd=PySem.W.fnOf x qual (j6 st) (cY st) (aa st) .none kV doc pm an cdv ct/\K.lookup f=some ⟨oc,od,.func fd,osl⟩/\PySem.W.codeIn K cdv qual=true
 kp:PySem.W.keepIn K (.ref f)=true
section
variable {P:Program} {w:World} {K:PySem.W.Frag} {mg:Str->Option Value} {base:Heap}
theorem sy.ok {x n:Str} {st:Stmt} {f:Addr} {fd:FuncData} {N ps:List Str} {k:Nat} {sp:Sp} (F:sy K x n st f fd) (S:ao N ps (aa st)) (len:∀vs H Q E,sp vs H Q E->vs.length=ps.length)
  (B:∀(z:Value) (A:Around) (outer:List Env) (s:Shared) (H:Hp) (vs:List V) (Q:VK) (E:XK),bI k (A.deeper (envOfC n (aa st) s.heap.objs.size f z))->sp vs H Q E->
   ∃t,fX (d9 lB P w K mg base N n (aa st) f z A outer s H E).RB (cY st) t/\t { nx:=λ_ H'=>Q .non H',rt:=Q } (start N vs) H):bO P w K mg base lB (k+1) f fd ps sp:=by
 obtain ⟨oc,Z,kV,U,Y,an,z,ct,J,rfl,lk,I⟩:=F.ex
 refine RQ lk I S len λA outer s H vs Q E O D=>?_
 obtain ⟨t,h,q⟩:=B z A outer s H vs Q E O D
 exact ⟨t,h.RB,q⟩
theorem sy.binds {x n:Str} {st:Stmt} {f:Addr} {fd:FuncData} {ps:List Str} (F:sy K x n st f fd)
  (h:∀(kV z D:Value) (I:Option Addr) (B ct:Value) (us:List Value),us.length=ps.length->bindArgs (PySem.W.fnOf x n (j6 st) (cY st) (aa st) .none kV z D I B ct) ⟨us,[]⟩=pure (ps.zip us)):Binds K fd ps []:=by
 obtain ⟨Y,U,kV,z,D,I,B,ct,J,rfl,lk,O⟩:=F.ex
 exact .all (h kV z D I B ct)
theorem lC {x n:Str} {st:Stmt} {f:Addr} {U:Value} {O J:Option Addr} {D:Array (Option Value)} {kV B I z ct:Value} (l:K.lookup f=some ⟨U,O,.func (PySem.W.fnOf x n (j6 st) (cY st) (aa st) .none kV B I J z ct),D⟩)
  (c:PySem.W.codeIn K z n=true) (k:PySem.W.keepIn K (.ref f)=true):sy K x n st f (PySem.W.fnOf x n (j6 st) (cY st) (aa st) .none kV B I J z ct):=⟨⟨U,O,kV,B,I,J,z,ct,D,rfl,l,c⟩,k⟩
end
section
variable {X:Cx}
theorem pv (i:Nat) {x:Str} {pos:Pos} (hN:X.N[i]? = some x:=by rfl) (z:Xy X.env.scope x:=by first|exact Or.inl rfl|exact Or.inr (Or.inl rfl)|exact Or.inr (Or.inr rfl)) (hd:(x == ("__debug__":Str))=false:=by decide)
  (n:(x == ("__classdict__":Str))=false:=by decide):PE X (.Name x pos) (v_ i):=Tr hN z hd n
end
theorem mL {c A B:Prop} [Decidable c] (z:c->A) (n:¬c->B):if c then A else B:=by
 by_cases h:c
 ·rw [zo h]
  exact z h
 ·rw [zi h]
  exact n h
def aM (H n:Hp):Prop:=∀b o,H b=some o->n b=some o
theorem aM.refl (H:Hp):aM H H:=λ_ _ h=>h
theorem aM.trans {H n H2:Hp} (a:aM H n) (b:aM n H2):aM H H2:=λc o h=>b c o (a c o h)
theorem aM.free {H n:Hp} (e:aM H n) {l:Addr} (h:n l=Option.none):H l=Option.none:=by
 cases q:H l with
 | none=>rfl
 | some o=>
  rw [e l o q] at h
  cases h
theorem aM.seq {K:PySem.W.Frag} {H n:Hp} {a:Addr} {xs:List V} (e:aM H n) (h:iI K H a xs):iI K n a xs:=by
 rcases h with (h|⟨o,h⟩)|h
 ·exact .inl (.inl (e _ _ h))
 ·exact .inl (.inr ⟨o,e _ _ h⟩)
 ·exact .inr h
def cV (z:List (Str × Addr)):List (Str × NameKind)->List (Str × Addr)->List (Str × Addr)
 | [],cs=>cs
 | (n,k)::r,cs=>cV z r (if k == .free then (match z.lookup n with|some c=>(n,c)::cs|none=>cs) else cs)
theorem sJ {B : Scope} {env : Env} (h : ∀ x ∈ B.names, x.2 = .free → (env.cells.lookup x.1).isSome = true) :
    closureFor B env = pure (cV env.cells B.names []) := by
  have all : ∀ (z : List (Str × NameKind)) (cs : List (Str × Addr)), (∀ x ∈ z, x.2 = .free → (env.cells.lookup x.1).isSome = true) →
      (do let mut ds := cs
          for (name, kind) in z do
            if kind == .free then ds := (name, ← cellOf env name) :: ds
          return ds : Sem (List (Str × Addr))) = pure (cV env.cells z cs) := by
    intro z
    induction z with
    | nil => intro cs _; rfl
    | cons y r ih =>
      intro cs O
      obtain ⟨n, k⟩ := y
      have J := λx Y => O x (zr _ Y)
      simp only [List.forIn_cons]
      cases I : k == NameKind.free with
      | false =>
        have e : cV env.cells ((n, k) :: r) cs = cV env.cells r cs := by
          show cV env.cells r (if k == .free then _ else cs) = _
          rw [I]; rfl
        rw [e, ← ih cs J]
        simp
      | true =>
        have D : k = .free := by simpa using I
        have Z := O (n, k) zn D
        obtain ⟨c, U⟩ := yS.mp Z
        have e : cV env.cells ((n, k) :: r) cs = cV env.cells r ((n, c) :: cs) := by
          show cV env.cells r (if k == .free then (match env.cells.lookup n with | some c => (n, c) :: cs | none => cs) else cs) = _
          rw [I, U]; rfl
        rw [e, ← ih ((n, c) :: cs) J]
        simp [cellOf, U]
  have q := all B.names [] h
  unfold closureFor
  exact q
theorem nW {z:List (Str × Addr)}:∀{names:List (Str × NameKind)} {cs:List (Str × Addr)} {x:Str} {c:Addr},(cV z names cs).lookup x=some c->
  cs.lookup x=some c\/z.lookup x=some c
 | [],_,_,_,h=>.inl h
 | (n,k)::r,cs,x,c,h=>by
  have q:=nW (names:=r) (x:=x) (c:=c) h
  rcases q with q|q
  ·cases I:k == NameKind.free with
   | false=>rw [I] at q;exact .inl q
   | true=>
    rw [I] at q
    cases D:z.lookup n with
    | none=>rw [D] at q;exact .inl q
    | some d=>
     rw [D] at q
     simp only [if_true,y9] at q
     cases B:x == n with
     | true=>
      rw [B] at q
      have e:x=n:=by simpa using B
      subst e
      rw [D];exact .inr q
     | false=>rw [B] at q;exact .inl q
  ·exact .inr q
theorem qu {z:List (Str × Addr)}:∀{B:List (Str × NameKind)} {cs:List (Str × Addr)} {x:Str} {c:Addr},cs.lookup x=some c->∃d,(cV z B cs).lookup x=some d
 | [],_,_,c,h=>⟨c,h⟩
 | (n,k)::r,cs,x,c,h=>by
  show ∃d,(cV z r _).lookup x=some d
  have more:∃d,(if k == NameKind.free then (match z.lookup n with|some c=>(n,c)::cs|none=>cs) else cs).lookup x=some d:=by
   cases I:k == NameKind.free with
   | false=>exact ⟨c,h⟩
   | true=>
    cases J:z.lookup n with
    | none=>exact ⟨c,h⟩
    | some d=>
     simp only [if_true,y9]
     cases D:x == n with
     | true=>exact ⟨d,rfl⟩
     | false=>exact ⟨c,h⟩
  obtain ⟨d,hd⟩:=more
  exact qu hd
theorem nY {z:List (Str × Addr)}:∀{names:List (Str × NameKind)} {cs:List (Str × Addr)} {x:Str},(x,NameKind.free)∈names->(z.lookup x).isSome=true->∃d,(cV z names cs).lookup x=some d
 | (n,k)::r,cs,x,B,hs=>by
  rcases zu.mp B with e|B
  ·cases (e)
   obtain ⟨c,D⟩:=yS.mp hs
   show ∃d,(cV z r _).lookup _=some d
   refine qu (c:=c) ?_
   simp [D]
  ·exact nY (names:=r) B hs
def bu (X:Cx) (n:Scope) (N:List Str) (C:Addr) (s:Shared) (H:Hp) (z:List Addr):Cx where
 prog:=X.prog
 w:=X.w
 K:=X.K
 mg:=X.mg
 base:=X.base
 A:=X.A
 N:=N
 s₀:=s
 H₀:=H
 env:=compEnvC n (cV X.env.cells n.names []) C X.env
 outer:=X.stack
 stack:=X.stack
 ex:=z
 calm:=true
 fn:=λ_=>false
 pn:=[]
 xe:=λ_ _=>False
structure aV (X:Cx) (scope:Scope) (N:List Str) (k:Nat):Prop where
 kind:scope.kind=.function
 qw:∀y∈scope.names,y.2≠.cell
 nd:N.Nodup
 len:N.length=k+X.N.length
 loc:∀x∈scope.names,x.2=.local->scope.names.lookup x.1=some .local
 free:∀x∈scope.names,x.2=.free->X.env.kindOf x.1=some .cell\/X.env.kindOf x.1=some .free
 own:∀i x,i<k->N[i]? = some x->scope.names.lookup x=some .local
 out:∀i x,N[k+i]? = some x->(scope.names.lookup x).isSome=true->X.N[i]? = some x/\scope.names.lookup x=some .free\/scope.names.lookup x=some .globalImplicit
def abT:TT:=λ_ H k=>k true H
def nZ {α:Type} (ho:α->HO) (len:α->Nat) (I:α) (ta:α->St->Hp->(α->Hp->Prop)->Prop) (k:Nat) (Y:TI) (g:TG) (Z:TT):TE:=λσ H Q=>Y σ H λJ H1=>∃W:Nat->Nat->α->St->Hp->Prop,(∃m,W 0 m I (List.replicate k none++σ) H1) /\
 ∀i m ys z H',W i m ys z H'->
  (J.stop i H'/\∀D,H' D=none->Q (.ref D) (upd H' D (ho ys))) \/
  (J.go i H'/\len ys<sizeLine/\∃N:α->St->Hp->Prop,(∀zs σ' B,N zs σ' B->∃O,O<m/\W (i+1) O zs σ' B) /\
   ∀x H2,J.RC i H' x H2->g x z H2 λn H3=>Z n H3 λb U=>if b=true then ta ys n U λzs H5=>N zs n H5 else N ys n U)
abbrev Yz (B:TE) (z:List V) (n:St) (H:Hp) (Q:List V->Hp->Prop):Prop:=B n H λy D=>Q (z++[y]) D
def Dy (k:Nat) (n:TI) (g:TG) (z:TT) (B:TE):TE:=nZ HO.lst List.length [] (Yz B) k n g z
theorem gq {env:Env}:∀{z:List (Str × NameKind)} {x:Str} {k:NameKind},z.lookup x=some k->
  (z.map λ(n,k)=>if (k == NameKind.free && env.scope.kind == .function && env.kindOf n == some .cell) then (n,NameKind.cell) else (n,k)).lookup x
   = some (if (k == NameKind.free && env.scope.kind == .function && env.kindOf x == some .cell) then NameKind.cell else k)
 | [],_,_,h=>by simp at h
 | (n,k)::r,x,k',h=>by
  have I:=@gq env r x k'
  show List.lookup x ((if (k == NameKind.free && env.scope.kind == .function && env.kindOf n == some .cell)=true then (n,NameKind.cell) else (n,k))::_)=_
  cases D:x == n with
  | true=>
   simp only [y9,D] at h
   cases h
   have e:x=n:=by simpa using D
   subst e
   by_cases B:(k == NameKind.free && env.scope.kind == .function && env.kindOf x == some .cell)=true
   ·rw [zo B,zo B];simp [y9]
   ·rw [zi B,zi B];simp [y9]
  | false=>
   simp only [y9,D] at h
   by_cases B:(k == NameKind.free && env.scope.kind == .function && env.kindOf n == some .cell)=true
   ·rw [zo B];simp only [y9,D];exact I h
   ·rw [zi B];simp only [y9,D];exact I h
theorem di {env:Env}:∀{z:List (Str × NameKind)} {x:Str},z.lookup x=none->
  (z.map λ(n,k)=>if (k == NameKind.free && env.scope.kind == .function && env.kindOf n == some .cell) then (n,NameKind.cell) else (n,k)).lookup x=none
 | [],_,_=>rfl
 | (n,k)::r,x,h=>by
  have D:=@di env r x
  show List.lookup x ((if (k == NameKind.free && env.scope.kind == .function && env.kindOf n == some .cell)=true then (n,NameKind.cell) else (n,k))::_)=_
  cases B:x == n with
  | true=>
   simp only [y9,B] at h
   cases h
  | false=>
   simp only [y9,B] at h
   by_cases I:(k == NameKind.free && env.scope.kind == .function && env.kindOf n == some .cell)=true
   ·rw [zo I];simp only [y9,B];exact D h
   ·rw [zi I];simp only [y9,B];exact D h
def vX (X:Cx) (n:List Expr) (t:TT):Prop:=
 ∀(pins:List (Addr × Obj)) (s:Shared) (σ:St) (H:Hp) (Q:Bool->Hp->Prop),Inv X pins σ H s->t σ H Q->
  wpAny (model X.prog X.w) X.A (forIn n true λc r=>if r=true then do let ok <-isTrue c X.env (eval c X.env);pure (ForInStep.yield ok) else pure (ForInStep.yield r)) (TP X pins σ Q) X.xe s
theorem Ou:vX X [] abT:=λ_ _ _ H _ I h=>wpAny_tests_nil ⟨H,I,h⟩
theorem Ov (h:PT X c t):vX X [c] t:=λpins s σ H Q I n=>wpAny_tests_one (h pins s σ H Q I n)
section
variable {X:Cx} {scope:Scope} {N:List Str} {k:Nat} {pins:List (Addr × Obj)} {σ:St} {H:Hp} {s:Shared} {fp:List Addr}
theorem Bv {h:Heap} {D:Addr} {Z:Obj} (S:aV X scope N k) (hc:X.calm=true) (I:Inv X pins σ H s) (hf:∀b∈fp,mG X pins H b) (ho:∀b∈fp,∃o,s.heap.get? b=some o/\∀v,o.data≠.cell v)
  (hC:s.heap.objs.size<C) (hD:D=s.heap.objs.size) (keep:∀b o,s.heap.get? b=some o->h.get? b=some o) (hDo:h.get? D=some Z) (hDc:∀v,Z.data≠.cell v) (hn:h.Ns C (λ_=>none)) :
  Inv (bu X scope N C s H fp) [(D,Z)] (List.replicate k none++σ) H { s with heap:=h,toks:=t' }:=by
 have Ie:∀b∈fp,b<s.heap.objs.size:=λb U=>by obtain ⟨o,e,_⟩:=ho b U;exact zI e
 have sub:∀x c,(cV X.env.cells scope.names []).lookup x=some c->X.env.cells.lookup x=some c:=λx c e=>by
  rcases nW e with z|z
  ·simp at z
  ·exact z
 have abU:∀x c,X.env.cells.lookup x=some c->c<s.heap.objs.size:=λx c e=>by
  obtain ⟨v,q⟩:=I.cell x c e
  exact q.lt
 have n:∀c v,s.heap.IsCell c v->h.IsCell c v:=λc v ⟨o,e,d⟩=>⟨o,keep c o e,d⟩
 refine ⟨⟨I.ok.mod,S.kind,?_,?_,xD hC,λx y c h1 h2=>I.ok.inj x y c (sub x c h1) (sub y c h2),λx hx=>?_,λx c z=>absurd (show false=true from z) yg,λ_=>I.ok.hd hc,I.ok.frames,.inl rfl,λb U=>⟨zN (xu (Ie b U) hC),λx c e=>(hf b U).2.c x c (sub x c e)⟩,
   I.bs,yi I.ok.Fv I.sz,λb o e U=>?_,λb U z=>?_,I.stack,I.uq⟩,rfl,I.bare,Un.kept keep,⟨_,hn,λi x v e1 e2 e3=>?_⟩,λx c e=>?_,I.hok.fresh (xD hC),λx c e=>I.fc x c (sub x c e),λp hp=>?_,I.hok.kept keep,?_⟩
 ·exact I.ok.glob
 ·exact I.ok.blt
 ·-- every YB name has its cell
  have J:(relabel scope X.env).names.lookup x=some .cell\/(relabel scope X.env).names.lookup x=some .free:=hx
  cases B:scope.names.lookup x with
  | none=>
   have q:=di (env:=X.env) B
   unfold relabel at J
   rcases J with z|z<;>(rw [q] at z;cases z)
  | some kd=>
   have q:=gq (env:=X.env) B
   have Y:=yV B
   have hfr:kd=.free:=by
    by_cases z:kd=.free
    ·exact z
    ·unfold relabel at J
     have z':(kd == NameKind.free)=false:=by simpa using z
     rw [z'] at q
     simp only [Bool.false_and,Bool.false_eq_true,if_false] at q
     rcases J with y|y
     ·rw [q] at y
      have y':kd=.cell:=yl y
      exact absurd y' (S.qw _ Y)
     ·rw [q] at y;exact absurd (yl y) z
   subst hfr
   obtain ⟨c,hc'⟩:=I.ok.has x (S.free _ Y rfl)
   exact nY Y (by rw [hc'];rfl)
 ·-- the base's records are no iterator's
  rcases (hf b U).2.e with z|z
  ·exact I.ok.sG b o e z
  ·rw [(I.ok.bs b o e).1] at z;cases z
 ·obtain ⟨_,z1,z2,_⟩:=hf b U
  rcases zu.mp (I.k_ b z) with y|y
  ·exact z1 y
  ·exact z2 y
 ·-- the names
  have e1':N[i]? = some x:=e1
  by_cases hi:i<k
  ·rw [zS (by simpa using hi),zX,zo hi] at e2
   cases e2
  ·obtain ⟨j,rfl⟩:∃j,i=k+j:=⟨i - k,by omega⟩
   rw [yf (by simp),zF,Nat.add_sub_cancel_left] at e2
   have O:(relabel scope X.env).names.lookup x=some .local\/(relabel scope X.env).names.lookup x=some .cell\/(relabel scope X.env).names.lookup x=some .free:=e3
   cases B:scope.names.lookup x with
   | none=>
    have q:=di (env:=X.env) B
    unfold relabel at O
    rcases O with z|z|z<;>(rw [q] at z;cases z)
   | some kd=>
    have q:=gq (env:=X.env) B
    rcases S.out j x e1' (by rw [B];rfl) with ⟨o1,o2⟩|o
    ·rw [B] at o2;cases o2
     have Y:=yV B
     have hv:Xy X.env.scope x:=by
      rcases S.free _ Y rfl with z|z
      ·exact .inr (.inl z)
      ·exact .inr (.inr z)
     obtain ⟨m,hns,hlk⟩:=I.loc
     obtain ⟨u,r,l⟩:=hlk j x v o1 e2 hv
     refine ⟨u,r,.inr ⟨?_,?_⟩⟩
     ·show (relabel scope X.env).names.lookup x=some .cell\/(relabel scope X.env).names.lookup x=some .free
      unfold relabel
      rw [q]
      split
      ·exact .inl rfl
      ·exact .inr rfl
     ·rcases l with ⟨z,_⟩|⟨_,c,e,z⟩
      ·rcases S.free _ Y rfl with y|y<;>(rw [show X.env.kindOf x=some NameKind.local from z] at y;cases y)
      ·obtain ⟨d,hd⟩:=nY (cs:=[]) Y (by rw [e];rfl)
       have hd':=sub x d hd
       rw [e] at hd';cases hd'
       exact ⟨c,hd,n _ _ z⟩
    ·rw [B] at o;cases o
     simp only [show (NameKind.globalImplicit == NameKind.free)=false from rfl,Bool.false_and,Bool.false_eq_true,if_false] at q
     unfold relabel at O
     rcases O with z|z|z<;>(rw [q] at z;cases z)
 ·obtain ⟨v,q⟩:=I.cell x c (sub x c e)
  exact ⟨v,n _ _ q⟩
 ·have e:p=(D,Z):=by
   have hp':p∈([]:List (Addr × Obj))++[(D,Z)]:=hp
   simpa using hp'
  subst e
  refine ⟨hDo,I.hok.fresh (by rw [hD];exact zC _),?_,λz=>?_,hDc⟩
  ·show D≠C
   rw [hD];exact zN hC
  ·have:=I.k_ D z
   rcases zu.mp this with y|y
   ·rw [hD] at y;exact absurd I.lt (by rw [<-y];exact xx _)
   ·exact I.X6 (by rw [hD];exact zC _) y
 ·show (List.replicate k none++σ).length=N.length
  rw [zt,zF,S.len,I.len]
end
section
variable {X:Cx} {scope:Scope} {N:List Str} {k:Nat} {pins:List (Addr × Obj)} {σ:St} {H:Hp} {s:Shared} {fp:List Addr}
theorem wR {h':Heap} {D C:Addr} {oD:Obj} {σ1:St} {H1:Hp} {Y:Shared} {ob:HO} (I:Inv X pins σ H s) (hf:∀b∈fp,mG X pins H b) (hC:s.heap.objs.size<C) (hD:D=s.heap.objs.size)
  (J:Inv (bu X scope N C s H fp) [(D,oD)] σ1 H1 Y) (hd:∀(H:Hp) (h:Heap),h.get? D=some oD->bK X.prog X.w H h D ob) (Z:Heap.SameBut C Y.heap h'):Inv X pins σ (upd H1 D ob) { Y with heap:=h' }:=by
 obtain ⟨eD,nD,neC,_,_⟩:=J.pin (D,oD) (by simp)
 have B:Un (frs X.stack) fp H H1 s.heap Y.heap:=J.base
 have lt:∀{b:Addr} {o:Obj},s.heap.get? b=some o->b≠C/\b≠D:=λ{b o} e=>⟨zN (xu (zI e) hC),by rw [hD];exact zN (zI e)⟩
 refine I.call' (s':={ Y with heap:=h' }) (ch:=fp) (show Y.os=s.os from J.os) ⟨λb o q n O U=>(Z.2 b (lt q).1).trans (B.keep b o q n O U),λb o q n O U=>?_,λb o q n U=>?_,λb o q U=>?_,λb o xs q=>?_⟩
  ((J.hok.moved (ch:=[C]) (λb O=>zD.mp O▸J.free) λb u O q=>(Z.2 b λz=>O (zD.mpr z)).trans q).track nD (hd _ _ ((Z.2 _ neC).trans eD))) J.bare λb O=>(hf b O).2
 ·obtain ⟨sl,e⟩:=B.slot b o q n O U
  exact ⟨sl,(Z.2 b (lt q).1).trans e⟩
 ·rw [aC (lt q).2];exact B.free b o q n U
 ·obtain ⟨o',e⟩:=B.there b o q U
  exact ⟨o',(Z.2 b (lt q).1).trans e⟩
 ·have e:=B.qg b o xs q
  rw [aC (gk e nD)];exact e
theorem Gg {prog : Program} {w : World} {A : Around} {e tg : Expr} {ifs : List Expr} {p : Pos} {Z : Value} {D : Addr} {O : Sem Unit} {env : Env} {R : Result → Shared → Prop} {s : Shared} (I : Nat → Shared → Prop) (hu : A.under (.compLoop e 0 Z (.ref D) env) = A)
    (ht : (model prog w).den (.compLoop e 0 Z (.ref D) env) = ((do
      standAt p
      match ← pyNext Z with
      | none => pure (.done .next)
      | some v =>
        letOwnedTupleGo tg Z v
        assign tg env v
        let mut ok := true
        for c in ifs do
          if ok then ok ← isTrue c env (eval c env)
        if ok then O
        again (.compLoop e 0 Z (.ref D) env)) : Sem _).onRaise (λx => do noteFrame x env; theTreesLotGoes x))
    (turn : ∀ n s, I n s → wpAny (model prog w) A (pyNext Z) (λr J => match r with
      | none => R (.ok .next) J
      | some v => wpAny (model prog w) A (letOwnedTupleGo tg Z v) (λ_ B => wpAny (model prog w) A (assign tg env v) (λ_ Y =>
          wpAny (model prog w) A (forIn ifs true λc r => if r = true then do let ok ← isTrue c env (eval c env); pure (ForInStep.yield ok) else pure (ForInStep.yield r)) (λok z =>
            if ok = true then wpAny (model prog w) A O (λ_ U => ∃ m, m < n ∧ I m U) (notedBy (model prog w) A env λx s' => R (.error x) s') z
            else ∃ m, m < n ∧ I m z) (notedBy (model prog w) A env λx s' => R (.error x) s') Y) (notedBy (model prog w) A env λx s' => R (.error x) s') B) (notedBy (model prog w) A env λx s' => R (.error x) s') J) (notedBy (model prog w) A env λx s' => R (.error x) s') s)
    (n : Nat) (h : I n s) : codeAny (model prog w) A (.compLoop e 0 Z (.ref D) env) R s := by
  refine codeAny_loop rfl I (λn s hI => ?_) n h
  rw [hu, ht]
  refine wpAny_noted ?_
  refine zh (xy (zh (bh (turn n s hI) λr J h₁ => ?_)))
  cases r with
  | none => exact zG h₁
  | some v =>
    refine zh (bh h₁ λ_ B h₁' => zh (bh h₁' λ_ Y h₂ => zh (bh h₂ λok z h₃ => ?_)))
    cases ok with
    | false => exact zG ⟨rfl, h₃⟩
    | true => exact zh (bh h₃ λ_ U h₄ => zG ⟨rfl, h₄⟩)
def n_ (M:Model) (A:Around) (E:Value->Shared->Prop) (use:Option (Value->Sem Unit)) (Q:Value->Shared->Prop) (z:Value) (n:Env):Result->Shared->Prop
 | .ok f,s'=>compPost M A E use Q z n.locals (.ok f) s'
 | .error x,s'=>∃m,s'.heap.Ns n.locals m/\∀h',Heap.SameBut n.locals s'.heap h'->wpAny M A (passOn "comprehension.variables-let-go" x n:Sem Value) (λ_ _=>False) E { s' with heap:=h' }
theorem Gh {s:Shared} {env:Env} {scope:Scope} {g:Comprehension}
  (hcl:clausesOf e=g::gs) (hs:∀x,foldedSetIterable g.iter env x=pure x) (J:closureFor scope env=pure cl) (n:scope.kind=.function) (B:∀x∈scope.names,x.2=.local->scope.names.lookup x.1=some .local)
  (h:wpAny M A fst (λx s1=>wpAny M A (pyIter x) (λit Y=>wpAny M A nw (λz s3=>wpAny M A (newFunctionEnv scope env.globals cl [] env.qual none .none (some env)) (λD s4=>
   codeAny M A (.compStart e 0 it z { D with scope:=relabel scope env }) (n_ M A E use Q z { D with scope:=relabel scope env }) s4) E s3) E Y) E s1) E s):wpAny M A (comprehension e scope env pos nw false fst use) Q E s:=by
 unfold comprehension
 rw [J,hcl]
 refine zh (bh h λx s1 h1=>zh (xy (zh (wpAny_of_eq (hs x) (zh (yb (bh h1 λit Y h2=>?_)))))))
 refine wpAny_standIf (zh (bh h2 λz s3 h3=>zh (zG (zh (bh h3 λD s4 h4=>?_)))))
 dsimp only
 have Z:∀x∈(scope.names.filter λx=>(x.2 == .local || x.2 == .cell) && x.1 != (".0":Str)).reverse,x.2=.local->Env.kindOf { D with scope:=relabel scope env } x.1=some .local:=
  λx hx hl=>lookup_relabel_local (B x (List.mem_filter.mp (zY.mp hx)).1 hl)
 refine yb (zh (wpAny_attempt (yb (wpAny_run (codeAny_mono h4 λr s' I=>?_)))))
 cases r with
 | ok f=>
  cases use with
  | none=>
   obtain ⟨m,U,I⟩:=(show compPost M A E none Q z D.locals (.ok f) s' from I)
   exact zh (yb (wpAny_comp_letGo (cenv:={ D with scope:=relabel scope env }) n _ s' m Z U λh' _ _ O=>zG (I h' O)))
  | some u=>
   refine zh (wpAny_rule (zh (yb (bh (show wpAny M A (u z) _ E s' from I) λ_ Y h2=>?_))))
   obtain ⟨m,U,h2⟩:=h2
   refine zh (wpAny_comp_letGo (cenv:={ D with scope:=relabel scope env }) n _ Y m (λx hx=>?_) U λh' _ _ O=>zG (h2 h' O))
   rcases zT.mp hx with y|y
   ·exact Z x (List.mem_of_mem_drop y)
   ·exact Z x (xn y)
 | error x=>
  obtain ⟨m,U,I⟩:=I
  exact zh (yb (wpAny_comp_letGo (cenv:={ D with scope:=relabel scope env }) n _ s' m Z U λh' _ _ O=>xo (I h' O) (λ_ _ f=>f.elim) λ_ _ y=>y))
abbrev gW (X:Cx) (n:Scope) (N:List Str) (C:Addr) (s:Shared) (H:Hp) (z:List Addr) (E:Value->Shared->Prop):Cx:={ bu X n N C s H z with xe:=E }
theorem Inv.xe {X:Cx} {H:Hp} {s:Shared} (I:Inv { X with xe:=E } pins σ H s):Inv { X with xe:=E' } pins σ H s:=
 ⟨⟨I.ok.mod,I.ok.kind,I.ok.glob,I.ok.blt,I.ok.above,I.ok.inj,I.ok.has,I.ok.cab,I.ok.hd,I.ok.frames,I.ok.stk,I.ok.Tp,I.ok.bs,I.ok.Fv,I.ok.sG,I.ok.uo,I.ok.jF,I.ok.G9⟩,I.os,I.bare,I.base,I.loc,I.cell,I.free,I.fc,I.pin,I.hok,I.len⟩
def YC (X:Cx) (n:Scope) (use:Option (Value->Sem Unit)) (Q:Value->Shared->Prop) (C D:Addr):Value->Shared->Prop:=
 notedBy (model X.prog X.w) X.A (compEnvC n (cV X.env.cells n.names []) C X.env) λx s'=>n_ (model X.prog X.w) X.A X.xe use Q (.ref D) (compEnvC n (cV X.env.cells n.names []) C X.env) (.error x) s'
structure Ig (P : Program) (w : World) {α : Type} (ho : α → HO) (emp : α) (e tg iter : Expr) (ifs : List Expr) (T : String) (d0 : Data) (tail : Addr → Env → Sem Unit) : Prop where
  cl : clausesOf e = [⟨tg, iter, ifs, 0⟩]
  st : ∀ {A it acc env R s}, codeAny (model P w) A (.compLoop e 0 it acc env) R s → wpAny (model P w) A (pyIter it) (λit' s' => codeAny (model P w) A (.compLoop e 0 it' acc env) R s') (notedBy (model P w) A env λx s' => R (.error x) s') s → codeAny (model P w) A (.compStart e 0 it acc env) R s
  turn : ∀ it D env, ∃ p, (model P w).den (.compLoop e 0 it (.ref D) env) = ((do
      standAt p
      match ← pyNext it with
      | none => pure (.done .next)
      | some v =>
        letOwnedTupleGo tg it v
        assign tg env v
        let mut ok := true
        for c in ifs do
          if ok then ok ← isTrue c env (eval c env)
        if ok then tail D env
        again (.compLoop e 0 it (.ref D) env)) : Sem _).onRaise (λx => do noteFrame x env; theTreesLotGoes x)
  un : ∀ (A : Around) it acc env, A.under (.compLoop e 0 it acc env) = A
  fr : Obj.isFreed { cls := .type T, data := d0 } = false
  ok : sizeOk d0
  c0 : ∀ v, d0 ≠ .cell v
  o0 : ∀ (D : Addr) (H : Hp) (h : Heap), (D == sysModules) = false → h.get? D = some { cls := .type T, data := d0 } → bK P w H h D (ho emp)
inductive YD (Y:Cx) (D:Addr) (oD:Obj) (pl:List (Addr × Obj)) (σ:St) {α:Type} (ho:α->HO) (M:α->Hp->Prop) (s2:Shared):Prop
 | mk (zs:α) (o':Obj) (H':Hp) (s1:Shared) (h':Heap) (t':Nat):Inv Y ((D,oD)::pl) σ H' s1->M zs H'->s2={ s1 with heap:=h',toks:=t' }->h'.get? D=some o'->(∀(H:Hp) (h:Heap),h.get? D=some o'->bK Y.prog Y.w H h D (ho zs))->(∀v,o'.data≠.cell v)->
  (∀b o,b≠D->s1.heap.get? b=some o->h'.get? b=some o)->YD Y D oD pl σ ho M s2
def Ow (Y:Cx) {α:Type} (B:α->HO) (len:α->Nat) (I:α->St->Hp->(α->Hp->Prop)->Prop) (n:Addr->Env->Sem Unit):Prop:=
 ∀(D:Addr) (z:Obj) (pl:List (Addr × Obj)) (σ:St) (H:Hp) (s:Shared) (ys:α) (M:α->Hp->Prop),Inv Y ((D,z)::pl) σ H s->(∀(H:Hp) (h:Heap),h.get? D=some z->bK Y.prog Y.w H h D (B ys))->len ys<sizeLine->I ys σ H M->
  wpAny (model Y.prog Y.w) Y.A (n D Y.env) (λ_ J=>YD Y D z pl σ B M J) Y.xe s
theorem tM {α:Type} {ho:α->HO} {len:α->Nat} {emp:α} {ta:α->St->Hp->(α->Hp->Prop)->Prop} {e iter tg:Expr} {ifs:List Expr} {UG:Pos} {wi:TI} {g:TG} {tt:TT} {Ty:String} {d0:Data} {tail:Addr->Env->Sem Unit} {use:Option (Value->Sem Unit)} {Qc:Value->Shared->Prop} {Q:VK}
  (B:Ig X.prog X.w ho emp e tg iter ifs Ty d0 tail) (S:aV X scope N k) (hc:X.calm=true) (hi:PI X tg iter wi)
  (hg:∀C s H fp E,PG (gW X scope N C s H fp E) tg g) (ht:∀C s H fp E,vX (gW X scope N C s H fp E) ifs tt) (ha:∀C s H fp,Inv X pins σ H s->(∀b∈fp,mG X pins H b)->s.heap.objs.size<C->Ow (gW X scope N C s H fp (YC X scope use Qc C s.heap.objs.size)) ho len ta tail)
  (hs:∀x,foldedSetIterable iter X.env x=pure x) (I:Inv X pins σ H s) (h:nZ ho len emp ta k wi g tt σ H Q)
  (fin:∀(n:Shared) (H2:Hp) (fp:List Addr) (C:Addr) (σ5:St) (H5:Hp) (s5:Shared) (oD:Obj) (ob:HO),Inv X pins σ H2 n->(∀b∈fp,mG X pins H2 b)->n.heap.objs.size<C->
   Inv (bu X scope N C n H2 fp) [(n.heap.objs.size,oD)] σ5 H5 s5->(∀(H:Hp) (h:Heap),h.get? n.heap.objs.size=some oD->bK X.prog X.w H h n.heap.objs.size ob)->Q (.ref n.heap.objs.size) (upd H5 n.heap.objs.size ob)->
   compPost (model X.prog X.w) X.A X.xe use Qc (.ref n.heap.objs.size) C (.ok .next) s5) :
  wpAny (model X.prog X.w) X.A (comprehension e scope X.env UG (newObj (.type Ty) d0) false (eval iter X.env) use) Qc X.xe s:=by
 have hclos:closureFor scope X.env=pure (cV X.env.cells scope.names []):=sJ λx hx hk=>by
  obtain ⟨c,e⟩:=I.ok.has x.1 (S.free x hx hk)
  rw [e];rfl
 refine Gh (use:=use) B.cl hs hclos S.kind S.loc (bh (hi pins s σ H _ I h) λv s1 h1=>bh h1 λitv n h2=>?_)
 obtain ⟨it,fp,tn,J,H2,e,I2,T,st2,f2,W,⟨m0,w0⟩,turn⟩:=h2
 subst e
 have ho2:=T.obj 0 _ st2
 have Ie:∀b∈fp,b<n.heap.objs.size:=λb Y=>by obtain ⟨o,e,_⟩:=ho2 b Y;exact zI e
 have big:(n.heap.objs.size == sysModules)=false:=xb.mpr (Ne.symm (zN (xu (by decide) (I2.mod.glob.keeps I2.bk).lt)))
 refine wpAny_newObj_type (wpAny_newFunctionEnv S.qw (by intro y hy;simp at hy) (λh₁ U O=>?_) S.kind) B.ok
 dsimp only at U O ⊢
 generalize hH2:n.heap.push { cls:=.type Ty,dict:=none,data:=d0 }=HH at U O ⊢
 have hC:n.heap.objs.size<HH.objs.size:=by rw [<-hH2,xp];exact Nat.lt_succ_self _
 have old:∀b o,n.heap.get? b=some o->h₁.get? b=some o:=λb o e=>O.extBut b o (zN (xu (zI e) hC)) (zA _ (hH2▸zA _ e))
 have hacc:h₁.get? n.heap.objs.size=some { cls:=.type Ty,data:=d0 }:=O.extBut _ _ (zN hC) (zA _ (hH2▸zE _ B.fr))
 generalize HH.objs.size=C at *
 generalize hD:n.heap.objs.size=D at *
 have hDs:n.heap.objs.size<=D:=Nat.le_of_eq hD
 let X':=gW X scope N C n H2 fp (YC X scope use Qc C D)
 have sub:∀x c,(cV X.env.cells scope.names []).lookup x=some c->X.env.cells.lookup x=some c:=λx c e=>by
  rcases nW e with y|y
  ·simp at y
  ·exact y
 have stat:∀{H':Hp} {o:Obj},(∀b∈fp,H' b=none)->∀b∈fp,mG X' [(D,o)] H' b:=λ{H' o} hn b Y=>by
  obtain ⟨z0,z1,z2,z3,z4,z5⟩:=f2 b Y
  refine ⟨hn b Y,zN (xu (Ie b Y) hC),λz=>?_,.inl Y,λx c e=>z4 x c (sub x c e),λp hp=>?_⟩
  ·rcases zu.mp (I2.k_ b z) with y|y
   ·exact z1 y
   ·exact z2 y
  ·rw [zD.mp (show p∈[(D,o)] from hp)]
   exact Ne.symm (zN (Ie b Y))
 have I3:Inv X' [(D,{ cls:=.type Ty,data:=d0 })] (List.replicate k none++σ) H2 { n with heap:=h₁,toks:=n.toks+([]:List (Str × Value)).length }:=
  Inv.xe (Bv S hc I2 f2 ho2 (hD▸hC) hD.symm old hacc B.c0 (by simpa using U))
 have loop:∀s₃:Shared,s₃={ n with heap:=h₁,toks:=n.toks+([]:List (Str × Value)).length }->
   codeAny (model X.prog X.w) X.A (.compLoop e 0 (.ref it) (.ref D) (compEnvC scope (cV X.env.cells scope.names []) C X.env)) (n_ (model X.prog X.w) X.A X.xe use Qc (.ref D) (compEnvC scope (cV X.env.cells scope.names []) C X.env)) s₃:=by
  rintro s₃ rfl
  obtain ⟨p,hturn⟩:=B.turn (.ref it) D (compEnvC scope (cV X.env.cells scope.names []) C X.env)
  refine Gg (λm s'=>∃i ys oD σ' H',Inv X' [(D,oD)] σ' H' s'/\(∀(H:Hp) (h:Heap),h.get? D=some oD->bK X.prog X.w H h D (ho ys))/\tn i s'.heap/\(∀b∈fp,H' b=none)/\W i m ys σ' H') (B.un _ _ _ _) hturn ?_ m0
   ⟨0,emp,_,_,H2,I3,λH h e=>B.o0 D H h big e,T.keep _ _ _ st2 λb _ o e=>old b o e,λb Y=>(f2 b Y).1,w0⟩
  rintro m s4 ⟨i,ys,oD,σ4,H4,I4,rv,st4,fr4,w4⟩
  rcases turn i m ys σ4 H4 w4 with ⟨stop,qn⟩|⟨go,hlt,M,hM,step⟩
  ·refine bh (T.done X' rfl rfl rfl rfl i _ s4 σ4 H4 X'.xe I4 (stat fr4) st4 stop) λr s5 zq=>?_
   obtain ⟨hr,I5⟩:=zq
   subst hr
   subst hD
   exact fin n H2 fp C _ _ _ oD _ I2 f2 hC (Inv.xe I5) rv (qn _ (I5.pin (n.heap.objs.size,oD) (by simp)).2.1)
  ·refine bh (T.item X' rfl rfl rfl rfl i _ s4 σ4 H4 X'.xe I4 (stat fr4) st4 go) λr s5 zq=>?_
   obtain ⟨u,hr,h5⟩:=zq
   subst hr
   refine bh h5 λ_ s6 zq=>?_
   obtain ⟨x,H6,I6,r6,y6,st6,fr6⟩:=zq
   have I6':=I6.pinned (stat fr6) (T.obj _ _ st6)
   have back:∀{Z:St} {H7:Hp} {s7:Shared},Inv X' ([(D,oD)]++qt fp s6.heap) Z H7 s7->tn (i+1) s7.heap/\∀b∈fp,H7 b=none:=λ{Z H7 s7} I7=>by
    have pn:∀b∈fp,∀o,s6.heap.get? b=some o->_:=λb Y o e=>I7.pin (b,o) (yB _ (yB _ (lq Y e)))
    refine ⟨T.keep _ _ _ st6 λb Y o e=>(pn b Y o e).1,λb Y=>?_⟩
    obtain ⟨o,e,d⟩:=T.obj _ _ st6 b Y
    exact (pn b Y o e).2.1
   refine bh (hg C n H2 fp _ _ s6 σ4 H6 x u _ I6' r6 (step x H6 y6)) λ_ s7 zq=>?_
   obtain ⟨Z,H7,I7,q7⟩:=zq
   refine bh (ht C n H2 fp _ _ s7 Z H7 _ I7 q7) λb s8 zq=>?_
   obtain ⟨H8,I8,q8⟩:=zq
   cases b with
   | false=>
    rw [zi yg] at q8 ⊢
    obtain ⟨m',hm,w'⟩:=hM _ _ _ q8
    obtain ⟨t8,f8⟩:=back I8
    exact ⟨m',hm,i+1,ys,oD,Z,H8,I8.mJ,rv,t8,f8,w'⟩
   | true=>
    rw [zo rfl] at q8 ⊢
    refine bh (hD▸(ha C n H2 fp I2 f2 (hD▸hC)) D oD _ Z H8 s8 ys _ I8 rv hlt q8) λ_ sA zq=>?_
    obtain ⟨zs,o',H9,s9,h',t',I9,q9,rfl,eo,ro,co,kp⟩:=zq
    obtain ⟨t9,f9⟩:=back I9
    obtain ⟨eD,nD,neC,nfD,_⟩:=I9.pin (D,oD) (by simp)
    obtain ⟨m',hm,w'⟩:=hM _ _ _ q9
    refine ⟨m',hm,i+1,zs,o',Z,H9,((I9.pK (Hq:=[]) λp hp=>nomatch hp).turned ⟨nD,neC,nfD,.inr (Heap.get?_none_of_le hDs),λx c e=>?_,λp hp=>nomatch hp⟩ kp).pK λp hp=>?_,ro,T.keep _ _ _ t9 λb Y o e=>kp b o (zN (hD▸Ie b Y)) e,f9,w'⟩
    ·obtain ⟨v,zc⟩:=I2.cell x c (sub x c e)
     exact zN (hD▸zc.lt)
    ·rw [zD.mp hp]
     exact ⟨eo,nD,neC,nfD,co⟩
 exact B.st (loop _ rfl) (T.self _ 0 _ _ _ (T.keep _ _ _ st2 λb _ o e=>old b o e) (loop _ rfl))
theorem PE.xe {C:Addr} {E:Value->Shared->Prop} {e:Expr} {t:TE} (h:PE (bu X scope N C s H fp) e t):PE (gW X scope N C s H fp E) e t:=λpins s σ H Q I q=>
 xo (h pins s σ H Q (Inv.xe I) q) (λ_ _ z=>by obtain ⟨v,H',n,r,q⟩:=z;exact ⟨v,H',Inv.xe n,r,q⟩) λ_ _ z=>z.elim
theorem vX.xe {C:Addr} {E:Value->Shared->Prop} {n:List Expr} {t:TT} (h:vX (bu X scope N C s H fp) n t):vX (gW X scope N C s H fp E) n t:=λpins s σ H Q I q=>
 xo (h pins s σ H Q (Inv.xe I) q) (λ_ _ z=>by obtain ⟨H',B,q⟩:=z;exact ⟨H',Inv.xe B,q⟩) λ_ _ z=>z.elim
theorem PG.xe {C:Addr} {E:Value->Shared->Prop} {n:Expr} {t:TG} (h:PG (bu X scope N C s H fp) n t):PG (gW X scope N C s H fp E) n t:=λpins s σ H v u Q I r q=>
 xo (h pins s σ H v u Q (Inv.xe I) r q) (λ_ _ z=>by obtain ⟨σ',H',B,q⟩:=z;exact ⟨σ',H',Inv.xe B,q⟩) λ_ _ z=>z.elim
abbrev Dz (n:Expr) (D:Addr) (env:Env):Sem Unit:=do let _ <-call (.builtin "list.append") [.ref D,<-eval n env]
theorem RT {P:Program} {w:World} {J B O:Expr} {I:List Expr} {n:Scope} {pos:Pos}:Ig P w HO.lst [] (.ListComp J [⟨O,B,I,0⟩] n pos) O B I "list" (.seq #[]) (Dz J) where
 cl:=rfl
 st:=codeAny_compStart_list
 turn:=λU D env=>⟨_,zV (Sem.onRaise · λx=>do noteFrame x env;theTreesLotGoes x) (compTurn_list J O B I n pos U (.ref D) env)⟩
 un:=λ_ _ _ _=>rfl
 fr:=rfl
 ok:=by size_fits
 c0:=λv z=>by cases z
 o0:=λD H h _ e=>⟨yN _,[],0,.nil,e⟩
theorem DG {Y:Cx} {J:Expr} {Z:TE} (he:PE Y J Z):Ow Y HO.lst List.length (Yz Z) (Dz J):=by
 intro D oD pl σ H s ys M I hd hz q
 refine zh (bh (he _ s σ H _ I q) λy U zq=>?_)
 obtain ⟨z,H9,I9,r9,q9⟩:=zq
 obtain ⟨O,_⟩:=I9.pin (D,oD) (by simp)
 obtain ⟨_,B,n,rv,e⟩:=hd H9 U.heap O
 obtain rfl:=yl (O.symm.trans e)
 refine zh (xg F.slot_list_append ⟨_,O,rfl⟩ F.entry_list_append (F.args_list_append_2 _ _) (PySem.list_append D B.toArray n y (by rw [zH,<-rv.length];omega)) ⟨O,zG ?_⟩)
 have q:=PySem.IsL.update O (λa=>a.push y)
 rw [show (B.toArray.push y)=(B++[y]).toArray by simp] at q
 exact ⟨ys++[z],_,H9,U,_,U.toks,I9,q9,rfl,q,λH h e=>⟨by rw [zt,yj];omega,B++[y],_,rv.append (.cons r9 .nil),e⟩,(λv w=>by cases w),λb o hb e=>(xd U.heap _ (Ne.symm hb)).trans e⟩
theorem Ox {n:Expr} (S:aV X scope N k) (hc:X.calm=true) (hi:PI X tg iter wi)
  (Z:∀C s H fp,PG (bu X scope N C s H fp) tg g) (U:∀C s H fp,vX (bu X scope N C s H fp) ifs tt) (he:∀C s H fp,PE (bu X scope N C s H fp) n te)
  (Y:∀x,foldedSetIterable iter X.env x=pure x:=by intro _;rfl):PE X (.ListComp n [⟨tg,iter,ifs,0⟩] scope pos) (Dy k wi g tt te):=by
 intro pins s σ H Q I h
 rw [eval_ListComp]
 refine tM RT S hc hi (λC s H fp _=>(Z C s H fp).xe) (λC s H fp _=>(U C s H fp).xe) (λC s H fp _ _ _=>DG (he C s H fp).xe) Y I h λO H2 fp C D H5 s5 oD ob I2 f2 hC B hd q=>?_
 obtain ⟨mC,z,_⟩:=B.loc
 exact ⟨mC,z,λh' J=>⟨.ref O.heap.objs.size,_,wR I2 f2 hC rfl B hd J,rfl,q⟩⟩
theorem o8 {α:Type} {Z:α->HO} {len:α->Nat} {emp:α} {ta:α->St->Hp->(α->Hp->Prop)->Prop} {i:Nat} {x:Str} {e n tg:Expr} {Y:List Expr} {pos z UG:Pos} {wi:TI} {g:TG} {tt:TT} {Ty:String} {d0:Data} {O:Addr->Env->Sem Unit}
  (B:Ig X.prog X.w Z emp e tg n Y Ty d0 O) (abW:∀u,evalThenUse e X.env u=(comprehension e scope X.env UG (newObj (.type Ty) d0) false (eval n X.env) (some u) >>= λ_=>pure ())) (hN:X.N.Nodup) (hi':X.N[i]? = some x) (hx:Loc X.env.scope x)
  (S:aV X scope N k) (hc:X.calm=true) (hi:PI X tg n wi) (hg:∀C s H fp,PG (bu X scope N C s H fp) tg g) (ht:∀C s H fp,vX (bu X scope N C s H fp) Y tt) (ha:∀C s H fp E,Ow (gW X scope N C s H fp E) Z len ta O)
  (hsw:swapsWith e (some (.Name x z)) pos.line X.env=pure true) (hs:∀x,foldedSetIterable n X.env x=pure x) (hf:X.fn x=true\/X.env.scope.names.lookup x=some .local) :
  PS X (.Assign [.Name x z] e pos) (Hy (nZ Z len emp ta k wi g tt) (wu i)):=by
 intro pins s σ H D I h
 rw [exec_Assign_Name_used _ _ _ _ hsw]
 refine zh (xy (zh ?_))
 rw [abW]
 refine zh (tM (Qc:=λ_ s'=>wpAny (model X.prog X.w) X.A (pure ()) (λ_ s''=>wpAny (model X.prog X.w) X.A (pure Flow.next) (SP X pins D) X.xe s'') X.xe s') B S hc hi (λC s H fp _=>(hg C s H fp).xe) (λC s H fp _=>(ht C s H fp).xe) (λC s H fp _ _ _=>ha C s H fp _) hs I h λU H2 fp C σ5 H5 s5 oD ob I2 f2 hC J hd q=>?_)
 have I6:Inv X pins σ (upd H5 U.heap.objs.size ob) s5:=wR (h':=s5.heap) I2 f2 hC rfl J hd ⟨rfl,λ_ _=>rfl⟩
 show wpAny (model X.prog X.w) X.A (assign (.Name x z) X.env (.ref U.heap.objs.size)) _ X.xe s5
 obtain ⟨mC,hnC,_⟩:=J.loc
 have nC:upd H5 U.heap.objs.size ob C=none:=by
  rw [aC (Nat.ne_of_gt hC)];exact J.free
 have fC:=I2.T8 (xD hC) nC
 refine wpAny_assign_Name (sZ (v:=.ref U.heap.objs.size) (u:=.ref U.heap.objs.size) I6 hN hi' hx rfl (λs7 I7 zq=>?_) hf)
 obtain ⟨a,sb,ha⟩:=zq
 refine ⟨mC,?_,λh' sb'=>zG (zG ⟨_,_,I7.turned (t':=s7.toks) fC λb o hb e=>(sb'.2 b hb).trans e,q⟩)⟩
 obtain ⟨o,es,ep,Z,r⟩:=hnC
 refine ⟨o,es,ep,(sb.2 C ?_).trans Z,r⟩
 rcases ha with rfl|ha
 ·exact fC.2.l
 ·exact Ne.symm (fC.2.c _ _ ha)
end
section
variable {X:Cx} {pins:List (Addr × Obj)} {σ:St} {H H':Hp} {s:Shared} {h':Heap}
theorem jh:∀{ns:List Int} {z:List Value},Vals (ns.map V.int) z->IntsAre z ns
 | [],_,.nil=>.nil
 | n::r,_,.cons h t=>by
  obtain ⟨tk,rfl⟩:=h
  exact .cons n tk (jh t)
theorem Ih {xs:List V} {us:List Value} (r:Vals xs us):Vals xs.reverse us.reverse:=by
 induction r with
 | nil=>exact .nil
 | cons h t ih=>
  rw [yu,yu]
  exact ih.append (.cons h .nil)
def YF (K:PySem.W.Frag) (n:TE):TE:=λσ H Q=>n σ H λx H1=>∃(a:Addr) (xs:List V),x=.ref a/\iI K H1 a xs/\∀p,H1 p=none->Q (.ref p) (upd H1 p (.lst xs.reverse))
theorem UJ {j} (he:PE X e te):PE X (.Subscript e (.Slice none none (some (.UnaryOp .USub (.Constant (.int 1) j p1) p2)) p3) pos) (YF X.K te):=by
 intro pins s σ H Q I h
 refine Subscript_ (bh (he pins s σ H _ I h) λv O z=>?_)
 obtain ⟨x,H1,I1,Y,q1⟩:=z
 obtain ⟨a,xs,rfl,hq,q⟩:=q1
 cases Y
 refine wpAny_Slice ?_
 rw [evalPart_none]
 refine zG ?_
 refine zG ?_
 rw [evalPart_some]
 refine bh ((Yo Uh Hr:PE X _ _) pins O σ H1 (λy H2=>y=.int (-1)/\H2=H1) I1 ⟨1,rfl,rfl,rfl⟩) λw n z=>?_
 obtain ⟨y,H2,I2,U,q2⟩:=z
 obtain ⟨rfl,rfl⟩:=q2
 obtain ⟨tk,rfl⟩:=U
 have D:Inv X pins σ H2 { n with heap:=n.heap.push { cls:=.type "slice",data:=.fields #[.none,.none,.int (-1) tk] } }:=I2.kept (t':=n.toks) λb Z q=>zA _ q
 obtain ⟨B,J,pl,hz⟩:=D.list hq
 show wpAny (model X.prog X.w) X.A (subscriptTail e (.Slice none none (some (.UnaryOp .USub (.Constant (.int 1) j p1) p2)) p3) (.ref a) (.ref n.heap.objs.size)) (EP X pins σ Q) X.xe { n with heap:=n.heap.push { cls:=.type "slice",data:=.fields #[.none,.none,.int (-1) tk] } }
 refine tail_any (ops:=[.ref a,.ref n.heap.objs.size]) pl.isList.typeIs slot_list_getitem.lookup ?_ (by with_unfolding_all rfl)
 have hl:=J.length
 refine wpAny_getItem_list_slice pl.isList (Heap.IsSliceOf.new ..) .none .none (.int (-1) tk) (by simp) ?_ (by rw [zH]<;>omega)
 rw [PySem.W.krv_pick]
 refine ⟨.ref _,_,D.laid (t':=n.toks) (o:=.lst xs.reverse) (λb Z q=>zA _ q) (zC _) ?_,rfl,q _ (D.hok.fresh (zC _))⟩
 exact ⟨by rw [yT];exact hz,B.reverse,0,Ih J,zE _ rfl⟩
def YG (i j:Int):Prop:=0<j/\j.natAbs.log2<9000
theorem Ii:g8 X (binaryOp .FloorDiv) (rI YG λi j=>.int (i / j)):=XD λi j _ _ _ _ _ n q=>by
 have h1:(0:Int)<j:=n.1
 refine floordiv_int (by omega) ?_ (.inl (PyProof.noPylong_of_log2 n.2))
 rw [Int.fdiv_eq_ediv_of_nonneg _ (by omega)]
 exact q
end
structure aF (K:PySem.W.Frag) (mg:Str->Option Value) (x:Str) (st:Stmt) (ps:List Str) where
 f:Addr
 fd:FuncData
 F:sy K x x st f fd
 m:mg x=some (.ref f)
 b:Binds K fd ps []
theorem qy {X:Cx} {x:Str} {st:Stmt} {ps:List Str} {k:Nat} {sp:Sp} {e:Expr} {es:List Expr} {p pos:Pos} {t:TA} (D:aF X.K X.mg x st ps) (G:bO X.prog X.w X.K X.mg X.base lB k D.f D.fd ps sp) (z:bI k X.A) (I:PA X (e::es) t)
  (B:Gl X x:=by rfl) (n:(x == ("__debug__":Str))=false:=by decide) (he:starEach (e::es) X.env=(false,eval e X.env)::starEach es X.env:=by rfl) (hpl:(backTo pos (starEach es X.env)).any (·.1)=false:=by rfl) :
  PE X (.Call (.Name x p) (e::es) [] pos) (RP sp [] E0 t):=
 Oj G z B D.m D.F.kp D.b .nil tL I n he hpl
structure gr (osc:Scope) (oN:List Str) (scope:Scope) (N:List Str) (k:Nat):Prop where
 kind:scope.kind=.function
 qw:∀y∈scope.names,y.2≠.cell
 nd:N.Nodup
 len:N.length=k+oN.length
 loc:∀x∈scope.names,x.2=.local->scope.names.lookup x.1=some .local
 free:∀x∈scope.names,x.2=.free->osc.names.lookup x.1=some .cell\/osc.names.lookup x.1=some .free
 own:∀x∈N.take k,scope.names.lookup x=some .local
 out:∀p∈(N.drop k).zip oN,(scope.names.lookup p.1).isSome=true->p.1=p.2/\scope.names.lookup p.1=some .free\/scope.names.lookup p.1=some .globalImplicit
theorem aV.of {X:Cx} {n:Scope} {N:List Str} {k:Nat} (S:gr X.env.scope X.N n N k):aV X n N k where
 kind:=S.kind
 qw:=S.qw
 nd:=S.nd
 len:=S.len
 loc:=S.loc
 free:=S.free
 own:=λi x hi e=>S.own x (by
  have:(N.take k)[i]? = some x:=by rw [List.getElem?_take_of_lt hi];exact e
  exact yH this)
 out:=λi x e J=>by
  have U:=S.len
  have hi:k+i<N.length:=(zx.mp e).1
  have B:i<X.N.length:=by omega
  have e1:(N.drop k)[i]? = some x:=by rw [yD];exact e
  have e2:X.N[i]? = some X.N[i]:=zd B
  have O:((N.drop k).zip X.N)[i]? = some (x,X.N[i]):=by
   rw [List.getElem?_zip_eq_some]
   exact ⟨e1,e2⟩
  rcases S.out _ (yH O) J with ⟨I,D⟩|z
  ·exact .inl ⟨by rw [e2];exact zV some I.symm,D⟩
  ·exact .inr z
theorem cP (h:H p=none) (o:HO):aM H (upd H p o):=λb u q=>by rw [aC (gk q h)];exact q
section
variable {X:Cx} {K:PySem.W.Frag}
theorem Ij (h:X.K=K):Nt X (Ur K):=by subst h;exact Dv
theorem Ik (h:X.K=K):SlR X (Yx K):=by subst h;exact Om
def abX (K:PySem.W.Frag):List V->Hp->VK->Prop:=λxs H Q=>∃p ys,xs=[.ref p]/\(iI K H p ys\/Dq K H p ys)/\Q (.int ys.length) H
theorem tQ (h:X.K=K):gn X (.builtin "len") (abX K):=by subst h;exact uE
theorem Il (h:X.K=K) (n:PE X l tl):PI X tg l (RD K tl):=by subst h;exact N8 n
theorem DK {k:Nat} (I:X.K=K) (D:X.calm=true) (h:ux X es t) (B:(assignEach es X.env).length=n:=by rfl) (z:(assignEach es X.env).findIdx? (·.1)=none:=by rfl):PG X (.Tuple es k pos) (Yh K n t):=by
 subst I;exact T3 D h B z
theorem Oz {j} (h:X.K=K) (he:PE X e te):PE X (.Subscript e (.Slice none none (some (.UnaryOp .USub (.Constant (.int 1) j p1) p2)) p3) pos) (YF K te):=by subst h;exact UJ he
end
theorem qz {X:Cx} {k:Nat} {pos:Pos} (hN:X.N.Nodup) (z:X.N[i]? = some x) (B:Loc X.env.scope x)
  (S:aV X scope N k) (O:X.calm=true) (hi:PI X tg iter wi)
  (J:∀C s H fp,PG (bu X scope N C s H fp) tg g) (D:∀C s H fp,vX (bu X scope N C s H fp) ifs tt) (he:∀C s H fp,PE (bu X scope N C s H fp) elt te)
  (n:swapsWith (.ListComp elt [⟨tg,iter,ifs,0⟩] scope pos2) (some (.Name x pos')) pos.line X.env=pure true:=by rfl)
  (I:∀x,foldedSetIterable iter X.env x=pure x:=by intro _;rfl) (hf:X.fn x=true\/X.env.scope.names.lookup x=some .local:=by first|exact .inl rfl|exact .inr rfl|assumption) :
  PS X (.Assign [.Name x pos'] (.ListComp elt [⟨tg,iter,ifs,0⟩] scope pos2) pos) (Hy (Dy k wi g tt te) (wu i)):=
 o8 RT (λu=>by rw [arm_evalThenUse_ListComp];rfl) hN z B S O hi J D (λC s H fp _=>DG (he C s H fp).xe) n I hf
section
variable {κ:Type} [DecidableEq κ]
def oh (n:List (κ × V)) (k:κ):Option V:=(n.find? λz=>decide (z.1=k)).map (·.2)
def putK (n:List (κ × V)) (k:κ) (v:V):List (κ × V):=
 if (n.any λz=>decide (z.1=k))=true then n.map (λz=>if z.1=k then (z.1,v) else z) else n++[(k,v)]
theorem Im {k:κ}:oh ([]:List (κ × V)) k=none:=rfl
theorem qF {p:κ × V} {k:κ} (e:p.1=k):oh (p::r) k=some p.2:=by simp [oh,List.find?_cons,e]
theorem qG {p:κ × V} {k:κ} (e:¬p.1=k):oh (p::r) k=oh r k:=by simp [oh,List.find?_cons,e]
theorem wU (k:κ):∀n:List (κ × V),(n.any λz=>decide (z.1=k))=(oh n k).isSome
 | []=>rfl
 | p::r=>by
  rw [List.any_cons]
  by_cases e:p.1=k
  ·simp only [qF e,zW e,Bool.true_or,Option.isSome_some]
  ·rw [qG e,zQ e,Bool.false_or];exact wU k r
theorem wV (n:List (κ × V)) (k:κ) (v:V):(putK n k v).length<=n.length+1:=by
 unfold putK
 split
 ·rw [z9];omega
 ·rw [zt,zJ,List.length_nil];omega
theorem Io {k:κ} (v:V) (h:oh kvs k=none):putK kvs k v=kvs++[(k,v)]:=by
 unfold putK
 rw [wU,h]
 exact zi (by decide)
theorem pD.Gi {o:Option V} {u:Option Value} (r:pD o u):o.isSome=u.isSome:=by
 cases o with
 | none=>cases u with
  | none=>rfl
  | some _=>exact (show False from r).elim
 | some _=>cases u with
  | none=>exact (show False from r).elim
  | some _=>rfl
theorem KV.val (r:KV kvs vs) (k:κ):pD (oh kvs k) (valueAt vs k):=by
 unfold KV at r
 induction r with
 | nil=>exact True.intro
 | @cons p q ps qs h t ih=>
  obtain ⟨h1,h2⟩:=h
  by_cases e:p.1=k
  ·have n:q.1=k:=h1.symm.trans e
   have b:valueAt (q::qs) k=some q.2:=by simp [valueAt,List.find?_cons,n]
   rw [qF e,b];exact h2
  ·have n:¬q.1=k:=λz=>e (h1.trans z)
   have b:valueAt (q::qs) k=valueAt qs k:=by simp [valueAt,List.find?_cons,n]
   rw [qG e,b];exact ih
theorem KV.any {n:List (κ × V)} {vs:List (κ × Value)} (r:KV n vs) (k:κ):(n.any λz=>decide (z.1=k))=vs.any λz=>decide (z.1=k):=by
 unfold KV at r
 induction r with
 | nil=>rfl
 | cons h t ih=>rw [List.any_cons,List.any_cons,ih,h.1]
theorem KV.repl {B:List (κ × V)} {vs:List (κ × Value)} (r:KV B vs) (k:κ) (D:RelV y u) :
  KV (B.map λn=>if n.1=k then (n.1,y) else n) (vs.map λn=>if n.1=k then (n.1,u) else n):=by
 unfold KV at r ⊢
 induction r with
 | nil=>exact .nil
 | @cons p q ps qs h t ih=>
  rw [yq,yq]
  refine .cons ?_ ih
  obtain ⟨h1,h2⟩:=h
  by_cases e:p.1=k
  ·rw [zo e,zo (h1.symm.trans e)];exact ⟨h1,D⟩
  ·rw [zi e,zi (λz=>e (h1.trans z))];exact ⟨h1,h2⟩
theorem KV.put (r:KV kvs vs) (k:κ) (n:RelV y u):KV (putK kvs k y) (stored vs k u):=by
 unfold putK stored
 rw [r.any k]
 by_cases e:(vs.any λz=>decide (z.1=k))=true
 ·rw [zo e,zo e];exact r.repl k n
 ·rw [zi e,zi e];exact Paired.snoc r ⟨rfl,n⟩
theorem KV.length {n:List (κ × V)} {vs:List (κ × Value)} (r:KV n vs):n.length=vs.length:=Paired.length r
end
theorem RV {k:Key} (r:RelV (kV k) u):(mF P w).is k u=true:=by
 cases k with
 | inl i=>obtain ⟨t,e⟩:=(show ∃t,u=Value.int i t from r);subst e;exact v5 P w i t
 | inr x=>obtain ⟨t,e⟩:=(show ∃t,u=Value.str x t from r);subst e;exact v8 P w x t
section
variable {P:Program} {w:World} {H:Hp} {h:Heap} {a:Addr}
theorem YH (ok:jE P w H h) (e:Rd H a u):bK P w H h a u:=e.ok ok
theorem YJ {n:List (Key × V)} (ok:jE P w H h) (e:Rd H a (.dK n)):n.length<=sizeLine/\(a == sysModules)=false/\∃vs,KV n vs/\h.DictOf (mF P w) a vs:=
 show bK P w H h a (.dK n) from YH ok e
end
def Ip (H:Hp) (a:Addr) (y:V) (r:Option V):Prop:=
 ∃n k,Rd H a (.dK n)/\y=kV k/\r=oh n k
theorem Ip.k {H:Hp} {a:Addr} {n:List (Key × V)} {k:Key} (e:H a=some (.dK n)):Ip H a (kV k) (oh n k):=⟨n,k,.inl e,rfl,rfl⟩
section
variable {X:Cx} {pins:List (Addr × Obj)} {σ:St} {H:Hp} {s:Shared} {a:Addr} {y v:V} {u r:Value} {o:Option V} {A:Around} {E:Value->Shared->Prop}
theorem abY (O:A.units+1<cLine) (I:Inv X pins σ H s) (g:Ip H a y o) (B:RelV y u) (h:∀s',Inv X pins σ H s'->Q (.bool o.isSome) s') :
  wpAny (model X.prog X.w) A (compareOp .In u (.ref a)) Q E s:=by
 obtain ⟨D,k,e,J,l⟩:=g
 subst J
 obtain ⟨z,hd,vs,n,dd⟩:=YJ I.hok e
 refine wpAny_in_of (RV B) hd dd.mapOf ?_
 rw [<-(n.val k).Gi,<-l]
 exact h _ (I.tok _)
end
def YK (ty n:TE):TE:=λσ H Q=>ty σ H λy H1=>n σ H1 λx H2=>∃a o,x=.ref a/\Ip H2 a y o/\Q (.bl o.isSome) H2
section
variable {X:Cx} {o i e value:Expr} {pos pos' tpos:Pos} {td ty tv:TE}
theorem Ir (O:X.A.units+1<cLine) (hi:PE X i ty) (U:PE X o td):PC X .In i o (YK ty td):=by
 intro pins s σ H Q I h
 refine bh (hi pins s σ H _ I h) λiv z ⟨y,H1,I1,B,q1⟩=>bh (U pins z σ H1 _ I1 q1) λu s2 n=>?_
 obtain ⟨x,H2,Z,D,a,J,ex,g,q2⟩:=n
 subst ex
 obtain rfl:u=Value.ref a:=D
 exact abY O Z g B λs3 Y=>⟨.bl J.isSome,H2,Y,rfl,q2⟩
end
abbrev UL (I D:TE) (n:List (Key × V)) (B:St) (H:Hp) (Q:List (Key × V)->Hp->Prop):Prop:=I B H λy O=>D B O λz J=>∃k,y=kV k/\Q (putK n k z) J
abbrev OD (z n:Expr) (p:Pos) (D:Addr) (env:Env):Sem Unit:=do
 let kv <-eval z env
 let vv <-holding [kv] (eval n env)
 standAt p
 holding [kv,vv] (dictSet D kv vv)
theorem OJ {Y:Cx} {kx vx:Expr} {tk tv:TE} {p:Pos} (hk:PE Y kx tk) (hv:PE Y vx tv):Ow Y HO.dK List.length (UL tk tv) (OD kx vx p):=by
 intro D oD pl σ H s n M I hd hz q
 refine zh (bh (hk _ s σ H _ I q) λyk s9 O=>?_)
 obtain ⟨zk,H9,I9,r9,q9⟩:=O
 refine zh (yb (bh (hv _ s9 σ H9 _ I9 q9) λyv sA O=>?_))
 obtain ⟨Z,HA,IA,rA,J,ek,qA⟩:=O
 subst ek
 obtain ⟨eD,_⟩:=IA.pin (D,oD) (by simp)
 obtain ⟨_,hm,vs,rv,dd⟩:=hd HA sA.heap eD
 refine zh (xy (yb (wpAny_dictSet_pairs (hsz:=by rw [<-rv.length];exact xD hz) (RV r9) dd λh' YL hs=>?_)))
 obtain ⟨o',es,ep,B,hx,U,_⟩:=id YL
 exact ⟨putK n J Z,o',HA,sA,h',_,IA,qA,rfl,B,λH h e=>⟨by have:=wV n J Z;omega,hm,stored vs J yv,rv.put J rA,YL.at λo e'=>by rw [B] at e';cases e';exact e⟩,(λv z=>by rw [U] at z;cases z),λb o hb e=>(hs.2 b hb).trans e⟩
def UT (k:Nat) (n:TI) (g:TG) (B:TT) (D z:TE):TE:=nZ HO.dK List.length [] (UL D z) k n g B
theorem wW {X:Cx} {n:Scope} {N:List Str} {k:Nat} {i:Nat} {x:Str} {Z Y B U:Expr} {J:List Expr} {pos O I:Pos} {wi:TI} {g:TG} {tt:TT} {tk tv:TE} (hN:X.N.Nodup) (hi':X.N[i]? = some x) (hx:Loc X.env.scope x)
  (S:aV X n N k) (hc:X.calm=true) (hi:PI X U B wi)
  (hg:∀C s H fp,PG (bu X n N C s H fp) U g) (ht:∀C s H fp,vX (bu X n N C s H fp) J tt) (hk:∀C s H fp,PE (bu X n N C s H fp) Z tk) (hv:∀C s H fp,PE (bu X n N C s H fp) Y tv)
  (hsw:swapsWith (.DictComp Z Y [⟨U,B,J,0⟩] n I) (some (.Name x O)) pos.line X.env=pure true)
  (hs:∀x,foldedSetIterable B X.env x=pure x) (hf:X.fn x=true\/X.env.scope.names.lookup x=some .local) :
  PS X (.Assign [.Name x O] (.DictComp Z Y [⟨U,B,J,0⟩] n I) pos) (Hy (UT k wi g tt tk tv) (wu i)):=
 o8 (Ty:="dict") (d0:=.dict #[])
  ⟨rfl,codeAny_compStart_dict,λit D env=>⟨_,zV (Sem.onRaise · λx=>do noteFrame x env;theTreesLotGoes x) (compTurn_dict Z Y U B J n I it D env)⟩,λ_ _ _ _=>rfl,rfl,by size_fits,(λv z=>by cases z),
   λD H h hD e=>⟨yN _,hD,[],.nil,_,#[],0,e,⟨rfl,rfl,rfl⟩,rfl,by intro x hx;simp at hx,.nil,List.nodup_nil⟩⟩
  (λu=>by rw [arm_evalThenUse_DictComp];rfl) hN hi' hx S hc hi hg ht (λC s H fp _=>OJ (hk C s H fp).xe (hv C s H fp).xe) hsw hs hf
def Itv (K:PySem.W.Frag) (a:Addr) (n:Nat):It:=
 ⟨λi H=>∃xs x,iI K H a xs/\xs.length=n/\i<n/\xs[n - 1 - i]? = some x,λi H x H'=>H'=H/\∀xs,iI K H a xs->xs[n - 1 - i]? = some x,λi H=>n=i⟩
theorem Iu {P:Program} {w:World} {K:PySem.W.Frag} {tg:Expr} (a:Addr) (n:Nat) (D:Addr):Turn P w K tg (Itv K a n) [D] D (λi h=>i<=n/\h.IsRevIter D a ((n:Int) - 1 - (i:Int))):=
 mH (n:="list_reverseiterator") (by decide) (λi h st=>by obtain ⟨_,o,e,c,d⟩:=st;exact ⟨o,_,e,c,d⟩) (λi h h' st k=>⟨st.1,st.2.at k⟩)
  (λX U J Y hc i pins s σ H E Q I st O q=>by
   subst U J Y
   obtain ⟨xs,x,hq,hn,hi,Z⟩:=O
   obtain ⟨its,rv,p,hz⟩:=I.list hq
   obtain ⟨u,hu,ru⟩:=rv.get Z
   have z:=st.2
   rw [show (n:Int) - 1 - (i:Int)=((n - 1 - i:Nat):Int) by omega] at z
   refine wpAny_pyNext_rev_item z p.isList (x:=u) (by simpa using hu) λh' B sb=>q u x h' s.toks ru ⟨rfl,λys hy=>by rw [I.qm hy hq];exact Z⟩ ⟨hi,?_⟩ λb o hb e=>(sb.2 b hb).trans e
   rw [show (n:Int) - 1 - ((i+1:Nat):Int)=((n - 1 - i:Nat):Int) - 1 by omega]
   exact B)
  (λX U J Y hc i pins s σ H E Q I st O q=>by
   subst U J Y
   have z:=st.2
   rw [show (n:Int) - 1 - (i:Int) = -1 by have:n=i:=O;omega] at z
   exact wpAny_pyNext_rev_end (I.ok.hd hc) z q)
  λ_ _ _ _ _ st h=>wpAny_pyIter_revIter st.2 h
section
variable {X:Cx} {K:PySem.W.Frag}
def YM (K:PySem.W.Frag) (n:TA):TI:=λσ H R=>n σ H λvs H1=>∃a xs,vs=[.ref a]/\iI K H1 a xs/\R (Itv K a xs.length) H1
theorem UW {a:Expr} {D:TA} {U:Expr} {p2 n:Pos} (hg:Gl X "reversed") (hm:X.mg "reversed"=none) (ha:PA X [a] D) (hs:starEach [a] X.env=[(false,eval a X.env)]:=by rfl) :
  PI X U (.Call (.Name "reversed" p2) [a] [] n) (YM X.K D):=by
 intro pins s σ H R I h
 refine Call_ (gm (u:=.type "reversed") I hg hm (by kernel_rfl) (yc (bh (ha n pins s σ H _ I h) λus z ⟨vs,H1,O,Z,q1⟩=>?_) hs rfl))
 obtain ⟨l,xs,e,hq,q⟩:=q1
 subst e
 cases Z with
 | cons r rr=>
  cases rr
  cases r
  obtain ⟨B,Y,p,hz⟩:=O.list hq
  refine call_reversed_list p.isList ?_
  have e1:((B.toArray.size:Nat):Int) - 1=(xs.length:Int) - 1 - ((0:Nat):Int):=by rw [zH,<-Y.length];simp
  rw [e1]
  have J:(z.heap.push (revObj l ((xs.length:Int) - 1 - ((0:Nat):Int)))).IsRevIter z.heap.objs.size l ((xs.length:Int) - 1 - ((0:Nat):Int)):=⟨_,zE _ rfl,rfl,rfl⟩
  exact wpAny_pyIter_revIter (s:={ z with heap:=z.heap.push (revObj l ((xs.length:Int) - 1 - ((0:Nat):Int))) }) J (Hz O (Iu l xs.length) ⟨yN _,J⟩ q)
theorem O1 {n:Pos} (h:X.K=K) (D:Gl X "reversed") (B:X.mg "reversed"=none) (I:PA X [a] ta) (z:starEach [a] X.env=[(false,eval a X.env)]:=by rfl) :
  PI X tg (.Call (.Name "reversed" n) [a] [] pos2) (YM K ta):=by subst h;exact UW D B I z
end
end L2
namespace L2
open PySem PySem.Spec PyProof.Rows Builtin Builtin.Str
section
variable {X:Cx} {K:PySem.W.Frag}
theorem tR:∀{ts:List Str} {n:List Value},Vals (ts.map V.str) n->∃l:List (Str × Tok),n=strValues l/\l.map (·.1)=ts
 | [],_,r=>by cases r;exact ⟨[],rfl,rfl⟩
 | t::ts,_,r=>by
  cases r with
  | cons h r=>
   obtain ⟨u,rfl⟩:=h
   obtain ⟨l,e1,e2⟩:=tR r
   exact ⟨(t,u)::l,by rw [e1];rfl,by rw [<-e2];rfl⟩
theorem tU:∀(l:List (Str × Tok)),Vals ((l.map (·.1)).map V.str) (strValues l)
 | []=>.nil
 | p::l=>.cons ⟨p.2,rfl⟩ (tU l)
def rJoin (K:PySem.W.Frag):V->List V->Hp->VK->Prop:=λx vs H Q=>∃(sep:Str) (a:Addr) (ts:List Str),x=.str sep/\vs=[.ref a]/\iI K H a (ts.map V.str)/\JoinOk sep ts=true/\Q (.str (Txt.join sep ts)) H
theorem O2:XH X "str.join" (rJoin X.K):=by
 intro pins s σ H x vs v U Q I n z h
 obtain ⟨sep,a,ts,rfl,rfl,O,ok,q⟩:=h
 obtain ⟨t,rfl⟩:=n
 obtain ⟨u,rfl,B⟩:=z.one
 cases B
 obtain ⟨J,D,pl,Z⟩:=I.list O
 obtain ⟨l,rfl,e⟩:=tR D
 exact SC.join pl.isList e ok λY k=>⟨.str _,H,I.tok _,⟨_,rfl⟩,q⟩
theorem Iv (h:X.K=K):XH X "str.join" (rJoin K):=by subst h;exact O2
theorem wX {s:Shared} {x y:Str} (B:(y.length == 0)=false) (hsz:x.length<=100000)
  (z:∀(l:List (Str × Tok)) (k:Nat),l.map (·.1)=Txt.split x y->Q (.ref s.heap.objs.size) { s with toks:=k,heap:=s.heap.push { cls:=.type "list",data:=.seq (strValues l).toArray } }) :
  wpAny (model prog w) A (call (.builtin "str.split") [.str x t,.str y u]) Q E s:=by
 have D:x.length<=sizeLine:=yi hsz (by decide)
 cases h1:(decide (x.length<y.length) || decide (strKind x<strKind y))
 ·cases hf:(occurrences x y 0 x.length (x.length+1)).isEmpty
  ·have I:(partsBetween x (occurrences x y 0 x.length (x.length+1)) y.length).length<=sizeLine:=by
    have h2:=StrLaws.occ_length_le x y 0 x.length (x.length+1)
    rw [StrLaws.partsBetween_eq]
    have J:∀(n:List Nat) (a:Nat),(StrLaws.partsFrom x y.length a n).length=n.length+1:=λn=>by
     induction n with
     | nil=>intro a;rfl
     | cons c r ih=>intro a;show (StrLaws.partsFrom x y.length (c+y.length) r).length+1=r.length+1+1;rw [ih]
    rw [J,xG];omega
   refine xg F.slot_str_split (typeIs_str _ _ _) F.entry_str_split (F.args_str_split_2 _ _) (meets_str_split_sep x y t u h1 B hf D I) ?_
   show wants Q E _ { s with toks:=_,heap:=s.heap.push { cls:=.type "list",data:=.seq (strsFrom s.toks (partsBetween x (occurrences x y 0 x.length (x.length+1)) y.length)).toArray } }
   rw [strsFrom_eq]
   exact z (numbered s.toks _) _ ((numbered_texts _ _).trans ((zi (ne_true_of_eq_false h1)).trans (zi (ne_true_of_eq_false hf))).symm)
  ·exact xg F.slot_str_split (typeIs_str _ _ _) F.entry_str_split (F.args_str_split_2 _ _) (meets_str_split_not_found x y t u h1 B hf) (z [(x,t)] s.toks ((zi (ne_true_of_eq_false h1)).trans (zo hf)).symm)
 ·exact xg F.slot_str_split (typeIs_str _ _ _) F.entry_str_split (F.args_str_split_2 _ _) (meets_str_split_cannot_occur x y t u h1) (z [(x,t)] s.toks (zo h1).symm)
def U0:V->List V->Hp->VK->Prop:=λx vs H Q=>∃(z y:Str),x=.str z/\vs=[.str y]/\(y.length == 0)=false/\z.length<=100000/\(Txt.split z y).length<=100000/\∀l,H l=none->Q (.ref l) (upd H l (.lst ((Txt.split z y).map V.str)))
theorem Iw:XH X "str.split" U0:=by
 intro pins s σ H x vs v Y Q I B D h
 obtain ⟨z,y,rfl,rfl,U,O,n,q⟩:=h
 obtain ⟨t,rfl⟩:=B
 obtain ⟨u,rfl,J⟩:=D.one
 obtain ⟨t',rfl⟩:=J
 refine wX U O λl k e=>?_
 rw [<-e] at n q
 rw [z9] at n
 exact ⟨.ref _,_,I.laid (t':=k) (λb o e=>zA _ e) (zC _) (show bK X.prog X.w _ _ _ (.lst _) from ⟨by rw [z9,z9,xG];omega,strValues l,0,tU l,zE _ rfl⟩),rfl,q _ (I.hok.fresh (zC _))⟩
def Its (x:Str):It:=⟨λi _=>i<x.cps.size,λi H v H'=>H'=H/\∃c,x.cps[i]? = some c/\v=.str ⟨#[c]⟩,λi _=>x.cps.size<=i⟩
theorem Iz {P:Program} {w:World} {Z:Expr} (x:Str) (t:Tok) (B:Addr):Turn P w K Z (Its x) [B] B (λi h=>h.IsStrIter B "str_ascii_iterator" x t i):=
 mH (n:="str_ascii_iterator") (by decide) (λi h st=>by obtain ⟨o,e,c,d⟩:=st;exact ⟨o,_,e,c,d⟩) (λi h h' st k=>by obtain ⟨o,ho,r⟩:=st;exact ⟨o,k o ho,r⟩)
  (λX O D U Y i pins s σ H E Q I st J q=>by
   subst O D U
   have hi:i<x.cps.size:=J
   exact wpAny_pyNext_ascii_item st (c:=x.cps[i]) (by simp [hi]) λh' z sb=>q _ (.str ⟨#[x.cps[i]]⟩) h' (s.toks+1) ⟨_,rfl⟩ ⟨rfl,_,by simp [hi],rfl⟩ z λb o hb e=>(sb.2 b hb).trans e)
  (λX O D U Y i pins s σ H E Q I st J q=>by
   subst O D U
   have hi:x.cps.size<=i:=J
   exact wpAny_pyNext_ascii_end (I.ok.hd Y) st (by simp;omega) q)
  λ_ _ _ _ _ st h=>wpAny_pyIter_striter_ascii st h
def ab1 (n:TE):TI:=λσ H R=>n σ H λv H1=>∃x,v=.str x/\x.cps.all (·<128)=true/\R (Its x) H1
theorem U3 (B:PE X l tl):PI X tg l (ab1 tl):=by
 intro pins s σ H R I h
 refine bh (B pins s σ H _ I h) λv U n=>?_
 obtain ⟨O,H1,J,z,q1⟩:=n
 obtain ⟨x,rfl,D,q⟩:=q1
 obtain ⟨t,rfl⟩:=z
 exact wpAny_pyIter_ascii D (Hz J (Iz x t) ⟨_,zE _ rfl,rfl,rfl⟩ q)
end
end L2
namespace L2
open PySem PySem.Spec PyProof.Rows
section
variable {P:Program} {w:World} {H:Hp} {h:Heap} {a:Addr} {o:HO}
theorem bK.ex (x:bK P w H h a o):∃ob,h.get? a=some ob:=by
 induction o with
 | lst xs=>obtain ⟨_,_,_,_,e⟩:=x;exact ⟨_,e⟩
 | tup xs=>obtain ⟨_,_,_,o,e,_⟩:=x;exact ⟨_,e⟩
 | dK kvs=>obtain ⟨_,_,_,_,o,_,_,e,_⟩:=x;exact ⟨_,e⟩
 | ins C dx fs=>obtain ⟨_,_,_,e,_⟩:=x;exact ⟨_,e⟩
 | own y=>exact x
 | Bd ob u ih=>exact ⟨_,x.1⟩
 | ext φ=>exact x.2.1
end
def Trc (h₀:Heap) (n:Hp) (a C:Addr) (h:Heap):Prop:=
 n a=none/\h₀.get? a=none/\∃oe vs T oT ts,h.get? a=some oe/\oe.cls=.ref C/\oe.data=.fields vs/\vs[1]? = some (.ref T)/\T≠a/\h₀.get? T=none/\n T=none/\h.get? T=some oT/\oT.data=.fields ts/\ts[3]? = some .none
section
variable {M:Model} {A:Around} {E:Value->Shared->Prop} {s:Shared} {base:Heap} {env:Env} {outer:List Env} {L e T:Addr} {oe oT:Obj} {vs ts:Array Value} {Q:Unit->Shared->Prop}
structure Note (fs ex:List Addr) (h h':Heap):Prop where
 keep:∀b o,h.get? b=some o->b ∉ ex->b ∉ fs->h'.get? b=some o
 slot:∀b o,h.get? b=some o->b∈fs->∃sl,h'.get? b=some { o with slots:=sl }
theorem Bw:∀env∈l,∀b,env.frame=some b->b∈frs l:=λenv n b z=>List.mem_filterMap.mpr ⟨env,n,z⟩
theorem Bx (U:A.frames=some (env::outer)) (hl:s.heap.FunFrames base (env::outer)) (hf:env.frame=some L) (he:s.heap.get? e=some oe) (hd:oe.data=.fields vs) (h1:vs[1]? = some (.ref T)) (hTe:T≠e)
  (hT:s.heap.get? T=some oT) (Y:oT.data=.fields ts) (h3:ts[3]? = some .none)
  (h:∀h',Note (frs (env::outer)) [e,T] s.heap h'->(∃n B J I D,h'.get? e=some n/\n.cls=oe.cls/\n.data=.fields B/\B[1]? = some (.ref J)/\J≠e/\(s.heap.get? J=none\/J=T)/\h'.get? J=some I/\I.data=.fields D/\D[3]? = some .none)->Q () { s with heap:=h' }) :
  wpAny M A (leaving env (.ref e)) Q E s:=by
 have m1:e∈e::T::frs (env::outer):=zn
 have m2:T∈e::T::frs (env::outer):=zr _ zn
 refine wpAny_leaving_next (base:=PySem.W.hideAll s.heap (e::T::frs (env::outer))) (cls:=oe.cls) U (PySem.W.funFrames_hide hl λenv he b Z=>zr _ (zr _ (Bw env he b Z))) hf
  ⟨oe,vs,T,oT,ts,he,rfl,hd,h1,x6 _ m2,hTe,hT,Y,h3⟩ (λb o q=>PySem.W.of_hideAll _ q) (x6 _ m1) λh' ⟨x1,x2,x3,x4⟩=>h h' ⟨λb o q n1 n2=>?_,λb o q Z=>?_⟩ ?_
 ·refine x1 b o (yU _ q λz=>?_)
  rcases zu.mp z with z|z
  ·exact n1 (by rw [z];exact zn)
  rcases zu.mp z with z|z
  ·exact n1 (by rw [z];exact zr _ zn)
  exact n2 z
 ·obtain ⟨_,o',q',O⟩:=hl.mem Z
  rw [q] at q';cases q'
  exact x4 b o q O
 ·obtain ⟨n,B,J,I,D,a1,a2,a3,a4,a5,a6,a7,a8,a9⟩:=x3
  refine ⟨n,B,J,I,D,a1,a2,a3,a4,a6,?_,a7,a8,a9⟩
  by_cases z:J=T
  ·exact .inr z
  ·refine .inl ?_
   cases q:s.heap.get? J with
   | none=>rfl
   | some o=>
    have:=yU (e::T::frs (env::outer)) q λy=>by
     rcases zu.mp y with y|y
     ·exact a6 y
     rcases zu.mp y with y|y
     ·exact z y
     obtain ⟨_,o',q',O⟩:=x2.mem y
     rw [a7] at q';cases q'
     exact O _ a8
    rw [a5] at this;cases this
theorem wY (U:A.frames=some (env::outer)) (Z:s.heap.FunFrames base (env::outer)) (hf:env.frame=some L) (he:s.heap.get? e=some oe) (hd:oe.data=.fields vs) (h1:vs[1]? = some .none)
  (h:∀h',Note (frs (env::outer)) [e] s.heap h'->(∃n B J I D,h'.get? e=some n/\n.cls=oe.cls/\n.data=.fields B/\B[1]? = some (.ref J)/\J≠e/\s.heap.get? J=none/\h'.get? J=some I/\I.data=.fields D/\D[3]? = some .none)->Q () { s with heap:=h' }) :
  wpAny M A (leaving env (.ref e)) Q E s:=by
 have m1:e∈e::frs (env::outer):=zn
 refine wpAny_leaving_first (base:=PySem.W.hideAll s.heap (e::frs (env::outer))) U (PySem.W.funFrames_hide Z λenv he b Y=>zr _ (Bw env he b Y)) hf he
  (λb o q=>PySem.W.of_hideAll _ q) (x6 _ m1) hd h1 λh' ⟨x1,x2,x3,x4⟩=>h h' ⟨λb o q n1 n2=>?_,λb o q Y=>?_⟩ ?_
 ·refine x1 b o (yU _ q λz=>?_)
  rcases zu.mp z with z|z
  ·exact n1 (by rw [z];exact zn)
  exact n2 z
 ·obtain ⟨_,o',q',O⟩:=Z.mem Y
  rw [q] at q';cases q'
  exact x4 b o q O
 ·obtain ⟨n,B,J,I,D,a1,a2,a3,a4,a5,a6,a7,a8,a9⟩:=x3
  refine ⟨n,B,J,I,D,a1,a2,a3,a4,a6,?_,a7,a8,a9⟩
  cases q:s.heap.get? J with
  | none=>rfl
  | some o=>
   have:=yU (e::frs (env::outer)) q λy=>by
    rcases zu.mp y with y|y
    ·exact a6 y
    obtain ⟨_,o',q',O⟩:=x2.mem y
    rw [a7] at q';cases q'
    exact O _ a8
   rw [a5] at this;cases this
end
def nP (P:Program) (w:World):FZ:=λouter H s E e s'=>∃a C H',e=.ref a/\s'.os=s.os/\AllBare s'.gens/\Un (frs outer) [] H H' s.heap s'.heap/\jE P w H' s'.heap/\Trc s.heap H' a C s'.heap/\E (.ref C) none H'
section
variable {P:Program} {w:World} {K:PySem.W.Frag} {mg:Str->Option Value} {base:Heap} {N:List Str} {qual:Str} {scope:Scope} {f:Addr} {cd:Value} {A:Around} {outer:List Env} {s₀:Shared} {H₀:Hp} {E₀:XK}
theorem pN {X:Cx} {σ:St} {s':Shared} {ex:List Addr} (hs:X.stack=X.env::X.outer) (hL:X.env.frame=some X.env.locals) (hx:X.ex=[]) (I:Inv X pins σ H' s') (n:Note (frs X.stack) ex s'.heap h')
  (new:∀b∈ex,X.s₀.heap.get? b=none/\H' b=none):Un (frs X.outer) [] X.H₀ H' X.s₀.heap h'/\jE X.prog X.w H' h':=by
 have U:=I.base
 have nol:∀b o,X.s₀.heap.get? b=some o->b ∉ frs X.outer->b ∉ frs X.stack:=λb o q n1 z=>by
  rcases zu.mp (I.k_ b z) with y|y
  ·have l1:=zI q
   have l2:=I.ok.above
   rw [<-y] at l2
   exact absurd (zK l1 l2) (xx _)
  ·exact n1 y
 have O:∀b o,X.s₀.heap.get? b=some o->b ∉ ex:=λb o q z=>by rw [(new b z).1] at q;cases q
 have B:∀b:Addr,b ∉ X.ex:=λb z=>by rw [hx] at z;cases z
 refine ⟨⟨λb o q J n1 _=>n.keep b o (U.keep b o q J n1 (B b)) (O b o q) (nol b o q n1),λb o q J D _=>?_,λb o q J _=>U.free b o q J (B b),λb o q _=>?_,U.qg⟩,λa o q=>?_⟩
 ·obtain ⟨sl,e1⟩:=U.slot b o q J D (B b)
  have hb':b∈frs X.stack:=by
   rw [hs]
   show b∈List.filterMap _ (X.env::X.outer)
   rw [List.filterMap_cons,hL]
   exact zr _ D
  obtain ⟨Y,e2⟩:=n.slot b _ e1 hb'
  exact ⟨Y,e2⟩
 ·obtain ⟨Z,e1⟩:=U.there b o q (B b)
  by_cases D:b∈frs X.stack
  ·obtain ⟨sl,e2⟩:=n.slot b Z e1 D
   exact ⟨_,e2⟩
  ·exact ⟨Z,n.keep b Z e1 (O b o q) D⟩
 ·refine (I.hok a o q).stay (λb u D e1=>?_) λ_ z=>z
  have ht:H' b≠none:=by
   rcases D with rfl|D
   ·rw [q];intro z;cases z
   ·rw [D];intro z;cases z
  exact n.keep b u e1 (λz=>ht (new b z).2) λz=>ht (I.uq b z)
theorem By {D:List (Addr × Obj)} {σ:St} {H U:Hp} {s s':Shared} {a C:Addr} (I:Inv (d9 (nP P w) P w K mg base N qual scope f cd A outer s₀ H₀ E₀) D σ H s)
  (J:Inv (d9 (nP P w) P w K mg base N qual scope f cd A outer s₀ H₀ E₀) D σ U s') (t:Trc s.heap U a C s'.heap) (q:E₀ (.ref C) none U):(d9 (nP P w) P w K mg base N qual scope f cd A outer s₀ H₀ E₀).xe (.ref a) s':=by
 obtain ⟨t0,t1,oe,vs,T,oT,ts,a1,a2,a3,a4,a5,a6,a7,a8,a9,a10⟩:=t
 have B:∀b,s.heap.get? b=none->s₀.heap.get? b=none:=λb z=>by
  cases y:s₀.heap.get? b with
  | none=>rfl
  | some o=>obtain ⟨_,e⟩:=I.base.there b o y (by intro z;cases z);rw [z] at e;cases e
 have O:∀b,s'.heap.get? b=none->s₀.heap.get? b=none:=λb z=>by
  cases y:s₀.heap.get? b with
  | none=>rfl
  | some o=>obtain ⟨_,e⟩:=J.base.there b o y (by intro z;cases z);rw [z] at e;cases e
 refine Bx (base:=base) J.ok.frames J.stack rfl a1 a3 a4 a5 a8 a9 a10 λh' n zq=>?_
 obtain ⟨oe',Y,T',oT',Z,b1,b2,b3,b4,b5,b6,b7,b8,b9⟩:=zq
 obtain ⟨un,hok⟩:=pN rfl rfl rfl J n (λb hb=>by
  rcases zu.mp hb with rfl|hb
  ·exact ⟨B _ t1,t0⟩
  ·rw [zD.mp hb];exact ⟨B _ a6,a7⟩)
 refine ⟨a,C,U,rfl,J.os,J.bare,un,hok,⟨t0,B _ t1,oe',Y,T',oT',Z,b1,by rw [b2,a2],b3,b4,b5,?_,?_,b7,b8,b9⟩,q⟩
 ·rcases b6 with z|z
  ·exact O _ z
  ·rw [z];exact B _ a6
 ·rcases b6 with z|z
  ·cases y:U T' with
   | none=>rfl
   | some o=>obtain ⟨_,e⟩:=(J.hok _ _ y).ex;rw [z] at e;cases e
  ·rw [z];exact a7
theorem wZ {B:List (Addr × Obj)} {σ:St} {H:Hp} {s s':Shared} {a C t:Addr} {args:List Value} (I:Inv (d9 (nP P w) P w K mg base N qual scope f cd A outer s₀ H₀ E₀) B σ H s)
  (m:Heap.MadeExcOf s.heap s'.heap a (.ref C) args) (hs:s'={ s with heap:=s'.heap }) (q:E₀ (.ref C) none H):(d9 (nP P w) P w K mg base N qual scope f cd A outer s₀ H₀ E₀).xe (.ref a) s':=by
 obtain ⟨t,a1,a2,a3⟩:=m.there
 have D:Inv (d9 (nP P w) P w K mg base N qual scope f cd A outer s₀ H₀ E₀) B σ H s':=by rw [hs];exact I.kept (t':=s.toks) m.keeps
 have ht:H a=none:=by
  cases y:H a with
  | none=>rfl
  | some o=>obtain ⟨_,e⟩:=(I.hok _ _ y).ex;rw [m.new] at e;cases e
 have O:∀b,s.heap.get? b=none->s₀.heap.get? b=none:=λb z=>by
  cases y:s₀.heap.get? b with
  | none=>rfl
  | some o=>obtain ⟨_,e⟩:=I.base.there b o y (by intro z;cases z);rw [z] at e;cases e
 have J:∀b,s'.heap.get? b=none->s₀.heap.get? b=none:=λb z=>by
  cases y:s₀.heap.get? b with
  | none=>rfl
  | some o=>obtain ⟨_,e⟩:=D.base.there b o y (by intro z;cases z);rw [z] at e;cases e
 refine wY (base:=base) D.ok.frames D.stack rfl a1 rfl rfl λh' n zq=>?_
 obtain ⟨Z,U,T',oT',Y,b1,b2,b3,b4,b5,b6,b7,b8,b9⟩:=zq
 obtain ⟨un,hok⟩:=pN rfl rfl rfl D n (λb hb=>by rw [zD.mp hb];exact ⟨O _ m.new,ht⟩)
 refine ⟨a,C,H,rfl,D.os,D.bare,un,hok,⟨ht,O _ m.new,Z,U,T',oT',Y,b1,b2,b3,b4,b5,J _ b6,?_,b7,b8,b9⟩,q⟩
 cases y:H T' with
 | none=>rfl
 | some o=>obtain ⟨_,e⟩:=(D.hok _ _ y).ex;rw [b6] at e;cases e
end
abbrev DN:List Value:=[.type "ValueError",.type "Exception",.type "BaseException",.type "object"]
structure DP (K:PySem.W.Frag) (mg:Str->Option Value) (x:Str) (C:Addr):Prop where
 m:mg x=some (.ref C)
 ok:PySem.W.excIn K C DN "ValueError.__new__"=true
theorem DP.own {K:PySem.W.Frag} {mg:Str->Option Value} {x:Str} {C:Addr} {h:Heap} (c:DP K mg x C) (I:K.In h):OwnCls x C DN "ValueError.__new__" mg h:=by
 have q:=c.ok
 refine ⟨c.m,?_⟩
 unfold PySem.W.excIn at q
 cases z:K.lookup C with
 | none=>rw [z] at q;cases q
 | some o=>
  rw [z] at q
  obtain ⟨oc,dd,od,sl⟩:=o
  split at q
  ·rename_i YL cd sl' eo
   cases (eo)
   obtain ⟨l⟩:=sl
   split at q
   ·rename_i C' bm k0 k1 k2 k3 n k5 em es
    obtain ⟨nm,bs,O,ns,J,hd,sn,D,ab,col,del⟩:=cd
    simp only [yx,beq_iff_eq,Bool.not_eq_true'] at q em es
    obtain ⟨⟨⟨⟨⟨e1,e2⟩,Z⟩,Y⟩,B⟩,U⟩:=q
    subst em e1 e2 Z es
    exact ⟨bm,ns,nm,J,bs,hd,sn,D,ab,col,dd,k0,k1,k2,k3,k5,_,I _ _ z,.of_isNs (PySem.W.isNs_of_in I B),PySem.W.nsMap_none_of_in I B U,PySem.W.tail_of_in I Y⟩
   ·cases q
  ·cases q
section
variable {X:Cx} {CX:FZ} {k:Nat} {f:Addr} {fd:FuncData} {ps:List Str} {sp:Sp} {E:XK} {x:Str} {st:Stmt} {p pos np cpos:Pos} {e:Expr} {es:List Expr} {t:TA} {C:Addr} {G:Addr->St->Hp->Prop}
theorem uG {B:St} (F:bO X.prog X.w X.K X.mg X.base CX k f fd ps sp) (J:bI k X.A) (U:Binds X.K fd ps []) (I:Inv X pins B H s) (r:Vals vs us) (h:sp vs H Q E)
  (D:∀e s',CX X.stack H s E e s'->X.xe e s'):wpAny (model X.prog X.w) X.A (call (.ref f) us) (EP X pins B Q) X.xe s:=by
 have O:us.length=ps.length:=by rw [<-r.length];exact F.len _ _ _ _ h
 have z:=U s us I.qj (by rw [ya];exact O)
 rw [ya] at z
 refine wpAny_call (codeAny_mono (F.run X.A X.stack s H ⟨us,[]⟩ us vs Q E J I.env0 z r h) λr s' n=>?_)
 match r,n with
 | .error e,n=>exact D e s' n
 | .ok (.ret u),n=>exact I.after n
def qH (X:Cx) (G:Addr->St->Hp->Prop):Prop:=∀(pins:List (Addr × Obj)) (σ:St) (H:Hp) (s:Shared) (H':Hp) (s':Shared) (a C:Addr),Inv X pins σ H s->Inv X pins σ H' s'->Trc s.heap H' a C s'.heap->G C σ H'->X.xe (.ref a) s'
def uH (X:Cx) (G:Addr->St->Hp->Prop):Prop:=∀(pins:List (Addr × Obj)) (σ:St) (H:Hp) (s s':Shared) (a C:Addr) (args:List Value),Inv X pins σ H s->Heap.MadeExcOf s.heap s'.heap a (.ref C) args->s'={ s with heap:=s'.heap }->G C σ H->X.xe (.ref a) s'
def U4 (sp:Sp) (G:Addr->St->Hp->Prop) (t:TA):TE:=λσ H Q=>t σ H λvs H1=>sp vs H1 Q λcl _ H'=>∃C,cl=.ref C/\G C σ H'
theorem IK (D:aF X.K X.mg x st ps) (F:bO X.prog X.w X.K X.mg X.base (nP X.prog X.w) k D.f D.fd ps sp) (Y:bI k X.A) (lk:qH X G) (ha:PA X (e::es) t)
  (Z:Gl X x:=by rfl) (B:(x == ("__debug__":Str))=false:=by decide) (he:starEach (e::es) X.env=(false,eval e X.env)::starEach es X.env:=by rfl) (hpl:(backTo pos (starEach es X.env)).any (·.1)=false:=by rfl) :
  PE X (.Call (.Name x p) (e::es) [] pos) (U4 sp G t):=by
 intro pins s σ H Q I h
 refine yZ (jf I Z D.m ?_ B)
 refine xj (h₀:=X.base) I.ok.mod.NQ D.F.kp (bh (ha pos pins s σ H _ I h) λus U ⟨vs,H1,n,r,q⟩=>⟨n.qj,?_⟩) he hpl
 refine uG F Y D.b n r q λe s' J=>?_
 obtain ⟨a,C,H',e1,e2,e3,un,hok,O,C',e4,g⟩:=J
 subst e1
 cases e4
 exact lk pins σ H1 U H' s' a C n (n.call' e2 un hok e3 (λb z=>absurd z (by simp))) O g
def U5 (G:Addr->St->Hp->Prop) (C:Addr) (t:TA):TS:=λ_ σ H=>t σ H λvs H1=>vs.length<=sizeLine/\G C σ H1
theorem IV (c:DP X.K X.mg x C) (hc:X.calm=true) (lk:uH X G) (ha:PA X (e::es) t)
  (hg:Gl X x:=by rfl) (J:(x == ("__debug__":Str))=false:=by decide) (he:starEach (e::es) X.env=(false,eval e X.env)::starEach es X.env:=by rfl) (hpl:(backTo cpos (starEach es X.env)).any (·.1)=false:=by rfl) :
  PS X (.Raise (some (.Call (.Name x np) (e::es) [] cpos)) none pos) (U5 G C t):=by
 intro pins s σ H D I h
 have O:=c.own I.mod.NQ
 obtain ⟨m0,n0,z,q0,b0,d0,s0,u0,a0,c0,U,j0,j1,j2,j3,j5,f0,hC,hN,B,T⟩:=O.obj
 refine wpAny_Raise_call_subT (bm:=m0) (nm:=z) (q:=q0) (N:=n0) (bs:=b0) (hdct:=d0) (sn:=s0) (sub:=u0) (ab:=a0) (col:=c0) (dd:=U) (k0:=j0) (k1:=j1) (k2:=j2) (k3:=j3) (k5:=j5) (C:=C) F.excBase_ValueError (mN:=f0)
  (T.hasType F.excBase_ValueError.hasBase) (I.ok.hd hc) (by rw [he];show (false || (backTo cpos (starEach es X.env)).any (·.1))=false;rw [hpl];rfl) B (jf I hg c.m ⟨rfl,?_⟩ J)
 have Y:=ha cpos pins s σ H _ I h
 rw [he] at Y ⊢
 exact Calls.evalArgs_plain (xo Y (λus s2 Z=>by obtain ⟨vs,H2,n,r,hl,g⟩:=Z;exact ⟨rfl,by rw [<-r.length];exact hl,n.bk _ _ hC,hN.keeps n.bk,T.keeps n.bk,λh' a m=>lk pins σ H2 s2 _ a C us n m rfl g⟩) λ_ _ y=>y)
end
def RW (a C:Addr):Heap->Prop:=λh=>∃o,h.get? a=some o/\o.cls=.ref C/\∃vs,o.data=.fields vs
abbrev XO (a C:Addr):HO:=.ext (RW a C)
section
variable {X:Cx} {pins:List (Addr × Obj)} {σ σ':St} {H:Hp} {s:Shared} {h':Heap} {a C:Addr}
theorem BJ {h:Heap} {sl:Array (Option Value)} (z:h.IsCell c v) (e:h.get? c=some o) (n:h'.get? c=some { o with slots:=sl }):h'.IsCell c v:=by
 obtain ⟨B,h1,h2⟩:=z
 rw [e] at h1;cases h1
 exact ⟨_,n,h2⟩
theorem qI {ex:List Addr} (hs:X.stack=X.env::X.outer) (hL:X.env.frame=some X.env.locals) (Y:X.ex=[]) (I:Inv X pins σ H s) (n:Note (frs X.stack) ex s.heap h')
  (new:∀b∈ex,X.s₀.heap.get? b=none/\H b=none/\b≠X.env.locals/\(∀x c,X.env.cells.lookup x=some c->c≠b)/\∀p∈X.pn++pins,p.1≠b):Inv X pins σ H { s with heap:=h',toks:=t' }:=by
 obtain ⟨un,hok⟩:=pN hs hL Y I n λb B=>⟨(new b B).1,(new b B).2.1⟩
 have D:Un X.fs X.ex X.H₀ H X.s₀.heap h':=by rw [Y];exact un
 have O:∀b o,s.heap.get? b=some o->b ∉ ex->∃sl,h'.get? b=some { o with slots:=sl }:=λb o q nb=>by
  by_cases B:b∈frs X.stack
  ·exact n.slot b o q B
  ·exact ⟨o.slots,n.keep b o q nb B⟩
 obtain ⟨m,hn,hl⟩:=I.loc
 have J:h'.Ns X.env.locals m:=by
  obtain ⟨o,es,ep,ho,hd,r⟩:=hn
  obtain ⟨sl,e⟩:=O _ o ho λz=>(new _ z).2.2.1 rfl
  exact ⟨_,es,ep,e,hd,r⟩
 have cl:∀x c v,X.env.cells.lookup x=some c->s.heap.IsCell c v->h'.IsCell c v:=λx c v e z=>by
  obtain ⟨o,h1,h2⟩:=id z
  obtain ⟨sl,e2⟩:=O c o h1 λy=>(new _ y).2.2.2.1 x c e rfl
  exact BJ z h1 e2
 refine ⟨I.ok,I.os,I.bare,D,⟨m,J,λi x v e1 e2 e3=>?_⟩,λx c e=>?_,I.free,I.fc,λp Z=>?_,hok,I.len⟩
 ·obtain ⟨u,r,q⟩:=hl i x v e1 e2 e3
  refine ⟨u,r,?_⟩
  rcases q with q|⟨k,c,e,z⟩
  ·exact .inl q
  ·exact .inr ⟨k,c,e,cl x c _ e z⟩
 ·obtain ⟨v,z⟩:=I.cell x c e
  exact ⟨v,cl x c v e z⟩
 ·obtain ⟨e,nn,ne,U,d⟩:=I.pin p Z
  refine ⟨n.keep _ _ e (λz=>(new _ z).2.2.2.2 p Z rfl) λz=>?_,nn,ne,U,d⟩
  rcases zu.mp (I.k_ _ z) with y|y
  ·exact ne y
  ·exact U y
end
section
variable {M:Model} {A:Around} {E:Value->Shared->Prop} {s:Shared} {base:Heap} {env:Env} {outer:List Env} {L e T:Addr} {oe oT:Obj} {vs ts:Array Value} {Q:Unit->Shared->Prop}
theorem Gj (U:A.frames=some (env::outer)) (hl:s.heap.FunFrames base (env::outer)) (hf:env.frame=some L) (he:s.heap.get? e=some oe) (hd:oe.data=.fields vs) (h1:vs[1]? = some (.ref T)) (hTe:T≠e)
  (hT:s.heap.get? T=some oT) (Y:oT.data=.fields ts) (h3:ts[3]? = some .none)
  (h:∀h',Note (frs (env::outer)) [e,T] s.heap h'->(∃n B J I D fl,h'.get? e=some n/\n.cls=oe.cls/\n.data=.fields B/\B[1]? = some (.ref J)/\J≠e/\(s.heap.get? J=none\/J=T)/\h'.get? J=some I/\I.data=.fields D/\D[3]? = some fl)->Q () { s with heap:=h' }) :
  wpAny M A (noteFrame (.ref e) env) Q E s:=by
 have m1:e∈e::T::frs (env::outer):=zn
 have m2:T∈e::T::frs (env::outer):=zr _ zn
 have h0:∃a0,vs[0]? = some a0:=⟨_,Array.getElem?_eq_getElem (xu (by decide) (yW.mp h1).1)⟩
 obtain ⟨a0,h0⟩:=h0
 refine wpAny_noteFrame_onW (base:=PySem.W.hideAll s.heap (e::T::frs (env::outer))) (cls:=oe.cls) (a0:=a0) U (PySem.W.funFrames_hide hl λenv he b Z=>zr _ (zr _ (Bw env he b Z))) hf
  ⟨oe,vs,T,oT,ts,he,⟨rfl,h0⟩,hd,h1,x6 _ m2,hTe,hT,Y,h3⟩ (λb o q=>PySem.W.of_hideAll _ q) (x6 _ m1) λh' ⟨x1,x2,x3,x4⟩=>h h' ⟨λb o q n1 n2=>?_,λb o q Z=>?_⟩ ?_
 ·refine x1 b o (yU _ q λz=>?_)
  rcases zu.mp z with z|z
  ·exact n1 (by rw [z];exact zn)
  rcases zu.mp z with z|z
  ·exact n1 (by rw [z];exact zr _ zn)
  exact n2 z
 ·obtain ⟨_,o',q',O⟩:=hl.mem Z
  rw [q] at q';cases q'
  exact x4 b o q O
 ·obtain ⟨n,B,J,I,D,a1,a2,a3,a4,a5,a6,a7,a8,a9⟩:=x3
  refine ⟨n,B,J,I,D,_,a1,a2.1,a3,a4,a6,?_,a7,a8,a9⟩
  by_cases z:J=T
  ·exact .inr z
  ·refine .inl ?_
   cases q:s.heap.get? J with
   | none=>rfl
   | some o=>
    have:=yU (e::T::frs (env::outer)) q λy=>by
     rcases zu.mp y with y|y
     ·exact a6 y
     rcases zu.mp y with y|y
     ·exact z y
     obtain ⟨_,o',q',O⟩:=x2.mem y
     rw [a7] at q';cases q'
     exact O _ a8
    rw [a5] at this;cases this
theorem o9 (he:s.heap.get? e=some oe) (hd:oe.data=.fields vs) (D:vs[1]? = some (.ref T)) (hT:s.heap.get? T=some oT) (n:oT.data=.fields ts) (B:ts[3]? = some fl)
  (h:∀h',(∀b o,s.heap.get? b=some o->b≠T->h'.get? b=some o)->(∃oT' ts',h'.get? T=some oT'/\oT'.data=.fields ts'/\ts'[3]? = some .none)->Q () { s with heap:=h' }):wpAny M A (setFlight (.ref e) none) Q E s:=by
 have z:3<ts.size:=(yW.mp B).1
 refine wpAny_setFlight_none he hd D hT n z (h _ (λb o q nb=>?_) ⟨_,_,Heap.get?_update_self _ hT (Obj.isFreed_of_fields (xi n _)),xi n _,by simp [z]⟩)
 rw [xd _ _ (Ne.symm nb)];exact q
theorem xJ {fs:List Addr} {h h':Heap} (k:∀b o,h.get? b=some o->b≠T->h'.get? b=some o) (B:T ∉ fs):Note fs [T] h h':=
 ⟨λb o q n _=>k b o q λz=>n (by rw [z];exact zn),λb o q D=>⟨o.slots,k b o q λz=>B (z▸D)⟩⟩
end
section
variable {X:Cx}
abbrev Cx.held (X:Cx) (n:List (Addr × Obj)) (E:Value->Shared->Prop):Cx:={ X with pn:=X.pn++n,xe:=E }
abbrev Cx.suite (X:Cx) (n:List (Addr × Obj)) (A:Around):Cx:={ X with pn:=X.pn++n,xe:=λ_ _=>False,A:=A,calm:=false }
variable {pins:List (Addr × Obj)} {σ:St} {H:Hp} {s:Shared} {E:Value->Shared->Prop} {A:Around}
theorem Inv.held (I:Inv X pins σ H s):Inv (X.held pins E) [] σ H s:=
 ⟨⟨I.ok.mod,I.ok.kind,I.ok.glob,I.ok.blt,I.ok.above,I.ok.inj,I.ok.has,I.ok.cab,I.ok.hd,I.ok.frames,I.ok.stk,I.ok.Tp,I.ok.bs,I.ok.Fv,I.ok.sG,I.ok.uo,I.ok.jF,I.ok.G9⟩,I.os,I.bare,I.base,I.loc,I.cell,I.free,I.fc,λp n=>I.pin p (by rw [ya] at n;exact n),I.hok,I.len⟩
theorem Inv.ou (I:Inv (X.held pins E) [] σ H s):Inv X pins σ H s:=
 ⟨⟨I.ok.mod,I.ok.kind,I.ok.glob,I.ok.blt,I.ok.above,I.ok.inj,I.ok.has,I.ok.cab,I.ok.hd,I.ok.frames,I.ok.stk,I.ok.Tp,I.ok.bs,I.ok.Fv,I.ok.sG,I.ok.uo,I.ok.jF,I.ok.G9⟩,I.os,I.bare,I.base,I.loc,I.cell,I.free,I.fc,λp n=>I.pin p (by rw [ya];exact n),I.hok,I.len⟩
theorem Inv.less (I:Inv X Hq σ H s):Inv X [] σ H s:=
 ⟨I.ok,I.os,I.bare,I.base,I.loc,I.cell,I.free,I.fc,λp n=>I.pin p (by rw [ya] at n;exact yQ _ n),I.hok,I.len⟩
theorem Inv.suite (I:Inv X pins σ H s) (hA:A.frames=X.A.frames):Inv (X.suite pins A) [] σ H s:=
 ⟨⟨I.ok.mod,I.ok.kind,I.ok.glob,I.ok.blt,I.ok.above,I.ok.inj,I.ok.has,I.ok.cab,(λz=>by cases z),hA.trans I.ok.frames,I.ok.stk,I.ok.Tp,I.ok.bs,I.ok.Fv,I.ok.sG,I.ok.uo,I.ok.jF,I.ok.G9⟩,I.os,I.bare,I.base,I.loc,I.cell,I.free,I.fc,λp n=>I.pin p (by rw [ya] at n;exact n),I.hok,I.len⟩
theorem Inv.DQ (I:Inv (X.suite pins A) [] σ H s) (hd:X.calm=true->X.A.handled=none) (hf:X.A.frames=some X.stack):Inv X pins σ H s:=
 ⟨⟨I.ok.mod,I.ok.kind,I.ok.glob,I.ok.blt,I.ok.above,I.ok.inj,I.ok.has,I.ok.cab,hd,hf,I.ok.stk,I.ok.Tp,I.ok.bs,I.ok.Fv,I.ok.sG,I.ok.uo,I.ok.jF,I.ok.G9⟩,I.os,I.bare,I.base,I.loc,I.cell,I.free,I.fc,λp n=>I.pin p (by rw [ya];exact n),I.hok,I.len⟩
end
structure XF (K:PySem.W.Frag) (C:Addr):Prop where
 ok:PySem.W.excIn K C DN "ValueError.__new__"=true
 ga:PySem.W.findIn K (.ref C) "__getattribute__"=some (some (.builtin "BaseException.__getattribute__"))
 gx:PySem.W.findIn K (.ref C) "__getattr__"=some none
 cl:PySem.W.findIn K (.ref C) "__class__"=some (some (.builtin "object.__class__"))
section
variable {prog:Program} {w:World} {A:Around} {E:Value->Shared->Prop} {h:Heap} {g:Array GenState} {d:Drawn} {t:Nat} {os:OsState} {a C:Addr} {o:Obj} {K:PySem.W.Frag}
theorem U6 (f:XF K C) (I:K.In h) (B:h.get? a=some o) (D:o.cls=.ref C) (hq:R (.ok (.ret (.ref C))) ⟨h,g,d,t,os⟩) :
  codeAny (model prog w) A (.call (.builtin "getset_descriptor.__get__") ⟨[.builtin "object.__class__",.ref a,.ref C],[]⟩) R ⟨h,g,d,t,os⟩:=by
 obtain ⟨O,n0,J,q0,b0,d0,s0,Z,a0,c0,Y,j0,j1,j2,j3,j5,f0,hD,hN,U,T⟩:=(DP.own (mg:=λ_=>some (.ref C)) (x:="x") ⟨rfl,f.ok⟩ I).obj
 have z:Shared.TypeIs ⟨h,g,d,t,os⟩ (.builtin "object.__class__") "getset_descriptor":=F.typeOf_object_class
 have n:(Value.ref C::O).contains (.type (".".intercalate ("object.__class__".cutAt '.').dropLast))=true:=by
  rw [F.owner_object_class,List.contains_cons,T.hasType (b:=true) (by decide)];rfl
 refine codeAny_call_builtin F.slot_gs_get.plain F.entry_gs_get (F.slot_gs_get.check _ _ _ _ _ _ _ _ z (F.args_gs_get _ _ _) ?_)
 repeat (any_goals (first|assumption|(with_reducible refine x9 B ?_;rw [D])|(with_reducible refine wpAny_isSubtype_exc hD ?_;rw [n])|wp_step))
 refine ⟨Code.quiet_builtin _ (by decide),?_⟩
 refine codeAny_builtin F.entry_object_class ?_
 repeat (any_goals (first|assumption|(with_reducible refine x9 B ?_;rw [D])|wp_step))
theorem uI (I:K.In h) (e:PySem.W.findIn K (.ref C) n=some r) (B:Q r ⟨h,g,d,t,os⟩):wpAny (model prog w) A (typeLookup (.ref C) n) Q E ⟨h,g,d,t,os⟩:=
 PySem.W.looks_findIn (M:=model prog w) I e A Q E ⟨h,g,d,t,os⟩ (λ_ _ z=>z) B
theorem IW (f:XF K C) (I:K.In h) (n:h.get? a=some o) (z:o.cls=.ref C) (D:Q (.done (.ret (.ref C))) ⟨h,g,d,t,os⟩):wpAny (model prog w) A (Builtin.«object.__getattribute__» ⟨[.ref a,.str "__class__" tk],[]⟩) Q E ⟨h,g,d,t,os⟩:=by
 have B:Shared.TypeIs ⟨h,g,d,t,os⟩ (.builtin "object.__class__") "getset_descriptor":=F.typeOf_object_class
 have U:=F.typeOf_object_class;have O:=F.slot_gs_get.lookup;have J:=F.slot_gs_set.lookup
 repeat (any_goals (first|assumption|(with_reducible refine x9 n ?_;rw [z])|with_reducible refine uI I f.cl ?_|wp_step))
 refine U6 f I n z ?_
 repeat any_goals first|assumption|wp_step
theorem I_ (f:XF K C) (I:K.In h) (J:h.get? a=some o) (Y:o.cls=.ref C) (O:Q () ⟨h,g,d,t,os⟩) :
  wpAny M A (checkBuiltinCall "BaseException.__getattribute__" ⟨[.ref a,nameV],[]⟩) Q E ⟨h,g,d,t,os⟩:=by
 obtain ⟨D,n0,B,q0,b0,d0,s0,u0,a0,c0,Z,j0,j1,j2,j3,j5,f0,hD,hN,U,T⟩:=(DP.own (mg:=λ_=>some (.ref C)) (x:="x") ⟨rfl,f.ok⟩ I).obj
 have k1:builtinKind "BaseException.__getattribute__"=some .slot:=by decide
 have k2:splitId "BaseException.__getattribute__"=some ("BaseException","__getattribute__"):=by decide
 have n:(Value.ref C::D).contains (.type "BaseException")=true:=by rw [List.contains_cons,T.hasType F.excBase_ValueError.hasBase];rfl
 have z:=F.args_bexc_ga (.ref a) nameV
 simp only [checkBuiltinCall,k1,k2]
 refine zh ?_
 ·unfold isInstance
  repeat (first|(with_reducible refine x9 J ?_;rw [Y])|(with_reducible refine wpAny_isSubtype_exc hD ?_;rw [n])|wp_step)
  exact O
theorem O3 (f:XF K C) (I:K.In h) (n:h.get? a=some o) (z:o.cls=.ref C) (B:R (.ok (.ret (.ref C))) ⟨h,g,d,t,os⟩) :
  codeAny (model prog w) A (.call (.builtin "BaseException.__getattribute__") ⟨[.ref a,.str "__class__" tk],[]⟩) R ⟨h,g,d,t,os⟩:=
 codeAny_call_builtin F.attrBase_ValueError.ga.plain F.entry_bexc_ga (I_ f I n z (IW f I n z B))
theorem YQ {D:Tok} (f:XF K C) (I:K.In h) (n:h.get? a=some o) (z:o.cls=.ref C) (O:Q (.ref C) ⟨h,g,d,t,os⟩):wpAny (model prog w) A (getAttrBy (.ref a) (.str "__class__" D) false) Q E ⟨h,g,d,t,os⟩:=by
 have U:=F.attrBase_ValueError.ga.bind (.ref a)
 have B:(Value.builtin "BaseException.__getattribute__" == Value.builtin "object.__getattribute__")=false:=by decide
 have J:(onTheHeap (Value.ref C) && Value.builtin "BaseException.__getattribute__" == Value.builtin "object.__getattribute__")=false:=by rw [B];rfl
 repeat (any_goals (first|assumption|(with_reducible refine x9 n ?_;rw [z])|with_reducible refine uI I f.ga ?_|with_reducible refine uI I f.gx ?_|wp_step))
 refine O3 f I n z ?_
 repeat any_goals first|assumption|wp_step
theorem O4 {Q:Option Value->Shared->Prop} (f:XF K C) (I:K.In h) (n:h.get? a=some o) (z:o.cls=.ref C) (B:Q (some (.ref C)) ⟨h,g,d,t+1,os⟩):wpAny (model prog w) A (getAttr? (.ref a) "__class__") Q E ⟨h,g,d,t,os⟩:=by
 unfold getAttr? getAttrBy?
 repeat (any_goals (first|assumption|with_reducible apply YQ f I n z|wp_step))
end
theorem Ja {K:PySem.W.Frag} {a C:Addr} (f:XF K C):PySem.W.KitX K (.ref a) (.ref C) (RW a C) where
 ty:=λM h _ ⟨o,h1,h2,_⟩=>h2▸(PySem.W.Looks.ld h1).andThen .now
 it:=λM h I _=>by
  obtain ⟨Z,Y,B,U,b0,d0,O,J,a0,c0,D,j0,j1,j2,j3,j5,f0,hD,_⟩:=(DP.own (mg:=λ_=>some (.ref C)) (x:="x") ⟨rfl,f.ok⟩ I).obj
  intro A' Q' E' s' k q
  unfold isType loadHead
  exact zh (wpAny_loadPart (k _ _ hD) (zG q))
 ne:=λh tp dd its n sl I z=>by
  obtain ⟨Z,Y,B,U,b0,d0,O,J,a0,c0,D,j0,j1,j2,j3,j5,f0,hD,_⟩:=(DP.own (mg:=λ_=>some (.ref C)) (x:="x") ⟨rfl,f.ok⟩ I).obj
  refine Bool.eq_false_iff.mpr λq=>?_
  have e:C=tp:=Value.ref.inj (beq_iff_eq.mp q)
  subst e
  rw [hD] at z
  have:=zV (λo=>o.map (·.cls)) z
  simp at this
 ca:=λ{_ _ _ _ _ s} I ⟨o,h1,h2,_⟩ k=>by obtain ⟨h,g,d,t,os⟩:=s;exact O4 f I h1 h2 k
section
variable {X:Cx} {σ:St} {H:Hp}
def YS (K:PySem.W.Frag) (H:Hp) (v:V) (t:Value):Prop:=sH K H v t\/∃a n,v=.ref a/\H a=some (XO a n)/\t=.ref n/\XF K n
theorem U7 {s:Shared} (I:Inv X pins σ H s) (B:RelV v u) (ty:YS X.K H v t):∃D:Heap->Prop,PySem.W.KitX X.K u t D/\D s.heap/\u≠.builtin "__main__.__loader__#opaque":=by
 rcases ty with ty|⟨a,Z,rfl,U,rfl,Y⟩
 ·cases ty with
  | non=>cases (show u=Value.none from B);exact ⟨_,PySem.W.kitx_none,trivial,λz=>nomatch z⟩
  | bl y=>cases (show u=Value.bool y from B);exact ⟨_,PySem.W.kitx_bool,trivial,λz=>nomatch z⟩
  | int i=>obtain ⟨_,q⟩:=(show ∃t,u=Value.int i t from B);cases q;exact ⟨_,PySem.W.kitx_int,trivial,λz=>nomatch z⟩
  | str y=>obtain ⟨_,q⟩:=(show ∃t,u=Value.str y t from B);cases q;exact ⟨_,PySem.W.kitx_str,trivial,λz=>nomatch z⟩
  | @lst a xs ea=>
   cases (show u=Value.ref a from B)
   obtain ⟨_,_,n,_,h1⟩:=(show bK X.prog X.w H s.heap a (.lst xs) from I.hok a _ ea)
   exact ⟨_,PySem.W.kitx_list,⟨_,h1,rfl⟩,λz=>nomatch z⟩
  | @Bd a ob xs ea=>
   cases (show u=Value.ref a from B)
   obtain ⟨_,_,_,n,_,h1⟩:=(show bK X.prog X.w H s.heap a (.Bd ob (.lst xs)) from I.hok a _ ea)
   exact ⟨_,PySem.W.kitx_list,⟨_,h1,rfl⟩,λz=>nomatch z⟩
  | @tup a xs ea=>
   cases (show u=Value.ref a from B)
   obtain ⟨_,_,_,o,h1,h2,_⟩:=(show bK X.prog X.w H s.heap a (.tup xs) from I.hok a _ ea)
   exact ⟨_,PySem.W.kitx_tuple,⟨o,h1,h2⟩,λz=>nomatch z⟩
  | @dK a kvs ea=>
   cases (show u=Value.ref a from B)
   obtain ⟨_,_,vs,_,o,es,ep,h1,h2,_⟩:=(show bK X.prog X.w H s.heap a (.dK kvs) from I.hok a _ ea)
   exact ⟨_,PySem.W.kitx_dict,⟨o,h1,h2.1⟩,λz=>nomatch z⟩
  | @ins a C dx fs ea cl U hn htk hm=>
   cases (show u=Value.ref a from B)
   obtain ⟨mA,O,_⟩:=pM I.hok ea
   obtain ⟨od,J,_⟩:=O.look
   exact ⟨_,PySem.W.kitx_own (cl.get _) cl.hd U hn htk hm,J,λz=>nomatch z⟩
 ·cases (show u=Value.ref a from B)
  obtain ⟨D,_,_⟩:=(show bK X.prog X.w H s.heap a (XO a Z) from I.hok a _ U)
  exact ⟨_,Ja Y,D,λz=>nomatch z⟩
theorem U8 {n:List (Addr × Obj)} {s:Shared} {A:Around} {E:Value->Shared->Prop} {Q:Value->Shared->Prop} {v:V} {u t c:Value} {k:Bool} (I:Inv X n σ H s) (z:RelV v u) (ty:YS X.K H v t) (e:PySem.W.kitOne X.K t c=some k)
  (h:∀tk,Q (.bool k) { s with toks:=tk }):wpAny (model X.prog X.w) A (call (.builtin "isinstance") [u,c]) Q E s:=by
 obtain ⟨D,Z,B,ne⟩:=U7 I z ty
 exact PySem.W.kia_one Z I.qj B e ne h
def ab3 (K:PySem.W.Frag):List V->Hp->VK->Prop:=λvs H Q=>∃v y c t k,vs=[v,y]/\(∀u,RelV y u->u=c)/\YS K H v t/\PySem.W.kitOne K t c=some k/\Q (.bl k) H
theorem Jb {K:PySem.W.Frag} (D:X.K=K):gn X (.builtin "isinstance") (ab3 K):=λpins s σ H vs J Q I r z=>by
 obtain ⟨v,y,c,t,k,e,B,ty,n,q⟩:=z
 subst e
 cases r with
 | cons r1 r2=>
  cases r2 with
  | cons r3 r4=>
   cases r4
   rw [B _ r3]
   rw [<-D] at ty n
   exact U8 I r1 ty n λtk=>⟨.bl k,H,I.tok tk,rfl,q⟩
end
inductive D where
 | non|bl (b:Bool)|int (i:Int)|str (x:Str)|lst (xs:List D)|tup (xs:List D)|atom (v:V)|vY (ns:List Int)|sO (ks:List Key) (ds:List D)|exc (C:Addr)
mutual
inductive Rep (K:PySem.W.Frag) (F:Hp):D->V->Prop
 | non:Rep K F .non .non
 | bl (b:Bool):Rep K F (.bl b) (.bl b)
 | int (i:Int):Rep K F (.int i) (.int i)
 | str (x:Str):Rep K F (.str x) (.str x)
 | atom (v:V):Rep K F (.atom v) v
 | lst {a:Addr} {vs:List V} {ds:List D}:F a=some (.lst vs)->aK K F ds vs->Rep K F (.lst ds) (.ref a)
 | tup {a:Addr} {vs:List V} {ds:List D}:F a=some (.tup vs)->aK K F ds vs->Rep K F (.tup ds) (.ref a)
 | vY {a:Addr} {ns:List Int}:iI K F a (ns.map V.int)->Rep K F (.vY ns) (.ref a)
 | sO {a:Addr} {ks:List Key} {vs:List V} {ds:List D}:F a=some (.dK (ks.zip vs))->ks.length=vs.length->aK K F ds vs->Rep K F (.sO ks ds) (.ref a)
 | exc {a C:Addr}:F a=some (XO a C)->Rep K F (.exc C) (.ref a)
inductive aK (K:PySem.W.Frag) (F:Hp):List D->List V->Prop
 | nil:aK K F [] []
 | cons {d:D} {v:V} {ds:List D} {vs:List V}:Rep K F d v->aK K F ds vs->aK K F (d::ds) (v::vs)
end
mutual
theorem Rep.mono {K:PySem.W.Frag} {F n:Hp} (h:aM F n):∀{d:D} {v:V},Rep K F d v->Rep K n d v
 | _,_,.non=>.non
 | _,_,.bl b=>.bl b
 | _,_,.int i=>.int i
 | _,_,.str x=>.str x
 | _,_,.atom v=>.atom v
 | _,_,.lst q r=>.lst (h _ _ q) (aK.mono h r)
 | _,_,.tup q r=>.tup (h _ _ q) (aK.mono h r)
 | _,_,.vY q=>.vY (h.seq q)
 | _,_,.sO q l r=>.sO (h _ _ q) l (aK.mono h r)
 | _,_,.exc q=>.exc (h _ _ q)
theorem aK.mono {K:PySem.W.Frag} {F n:Hp} (h:aM F n):∀{ds:List D} {vs:List V},aK K F ds vs->aK K n ds vs
 | _,_,.nil=>.nil
 | _,_,.cons r t=>.cons (Rep.mono h r) (aK.mono h t)
end
section
variable {K:PySem.W.Frag} {F:Hp}
theorem aK.length:∀{ds:List D} {vs:List V},aK K F ds vs->ds.length=vs.length
 | _,_,.nil=>rfl
 | _,_,.cons _ t=>by rw [zJ,zJ,aK.length t]
theorem aK.get:∀{ds:List D} {vs:List V} {i:Nat} {d:D},aK K F ds vs->ds[i]? = some d->∃v,vs[i]? = some v/\Rep K F d v
 | _,_,_,_,.nil,e=>by simp at e
 | _,_,0,_,.cons r _,e=>by simp at e;subst e;exact ⟨_,rfl,r⟩
 | _,_,i+1,d,.cons _ t,e=>by
  obtain ⟨u,h1,h2⟩:=aK.get (i:=i) (d:=d) t (by simpa using e)
  exact ⟨u,by simpa using h1,h2⟩
theorem aK.set (r:Rep K F d v):∀{ds:List D} {vs:List V} (i:Nat),aK K F ds vs->aK K F (ds.set i d) (vs.set i v)
 | _,_,_,.nil=>.nil
 | _,_,0,.cons _ t=>.cons r t
 | _,_,i+1,.cons q t=>.cons q (aK.set r i t)
theorem aK.append:∀{ds es:List D} {vs n:List V},aK K F ds vs->aK K F es n->aK K F (ds++es) (vs++n)
 | _,_,_,_,.nil,s=>s
 | _,_,_,_,.cons r t,s=>.cons r (aK.append t s)
theorem aK.take:∀{ds:List D} {vs:List V} (n:Nat),aK K F ds vs->aK K F (ds.take n) (vs.take n)
 | _,_,0,_=>.nil
 | _,_,_+1,.nil=>.nil
 | _,_,n+1,.cons r t=>.cons r (aK.take n t)
theorem aK.drop:∀{ds:List D} {vs:List V} (n:Nat),aK K F ds vs->aK K F (ds.drop n) (vs.drop n)
 | _,_,0,r=>r
 | _,_,_+1,.nil=>.nil
 | _,_,n+1,.cons _ t=>aK.drop n t
theorem aK.reverse:∀{ds:List D} {vs:List V},aK K F ds vs->aK K F ds.reverse vs.reverse
 | _,_,.nil=>.nil
 | _,_,.cons r t=>by
  rw [yu,yu]
  exact (aK.reverse t).append (.cons r .nil)
theorem aK.rep (r:aK K F ds vs):∀n:Nat,aK K F (List.replicate n ds).flatten (List.replicate n vs).flatten
 | 0=>.nil
 | n+1=>by
  rw [zU,zU,x8,x8]
  exact r.append (aK.rep r n)
theorem aK.ints:∀{ns:List Int} {vs:List V},aK K F (ns.map D.int) vs->vs=ns.map V.int
 | [],_,.nil=>rfl
 | _::r,_,.cons q t=>by
  cases q
  rw [yq,aK.ints (ns:=r) t]
theorem aK.mO:∀(ns:List Int),aK K F (ns.map D.int) (ns.map V.int)
 | []=>.nil
 | n::r=>.cons (.int n) (aK.mO r)
end
inductive Sl where
 | d (x:D)|own (xs:List D)|bor (xs:List D)
abbrev aG:=List (Option Sl)
inductive Ev where
 | fz (x:D)|ow (i:Nat)
def Sl.val:Sl->D
 | .d x=>x
 | .own xs=>.lst xs
 | .bor xs=>.lst xs
def Sl.put (n:List D):Sl->Sl
 | .own _=>.own n
 | .bor _=>.bor n
 | .d x=>.d x
def Sl.mu:Sl->Bool
 | .d _=>false
 | .own _=>true
 | .bor _=>true
def Sl.ev (i:Nat):Sl->Ev
 | .d x=>.fz x
 | .own _=>.ow i
 | .bor _=>.ow i
def lk (p:aG):Ev->D
 | .fz x=>x
 | .ow i=>match p[i]? with
  | some (some s)=>s.val
  | _=>.non
inductive Rt where
 | rd (x:D)|ro (xs:List D)
def Rt.val:Rt->D
 | .rd x=>x
 | .ro xs=>.lst xs
def Rt.sl:Rt->Sl
 | .rd x=>.d x
 | .ro xs=>.own xs
structure Pc where
 K:PySem.W.Frag
 F0:Hp
 H0:Hp
 bs:List (Nat × Addr)
def Jc (C:Pc) (F H:Hp):Sl->V->Prop
 | .d x,v=>Rep C.K F x v
 | .own xs,v=>∃a vs,v=.ref a/\F a=none/\C.H0 a=none/\H a=some (.lst vs)/\aK C.K F xs vs
 | .bor xs,v=>∃a vs,v=.ref a/\F a=none/\(∃q∈C.bs,q.2=a)/\H a=some (.lst vs)/\aK C.K F xs vs
structure RS (C:Pc) (p:aG) (σ:St) (F H:Hp):Prop where
 sub:aM F H
 ext:aM C.F0 F
 new:∀a o,F a=some o->C.F0 a=some o\/C.H0 a=none\/∃xs,o=.tup xs
 keep:∀a o,C.H0 a=some o->(∀q∈C.bs,q.2≠a)->H a=some o
 grow:∀a,C.H0 a≠none->H a≠none
 len:p.length=σ.length
 sl:∀(i:Nat) (s:Sl),p[i]? = some (some s)->∃v,σ[i]? = some (some v)/\Jc C F H s v
 apart:∀(i j:Nat) (s s':Sl) (a:Addr),i≠j->p[i]? = some (some s)->s.mu=true->p[j]? = some (some s')->s'.mu=true->σ[i]? = some (some (.ref a))->σ[j]? = some (some (.ref a))->False
 pin:∀q∈C.bs,σ[q.1]? = some (some (.ref q.2))/\∃xs,p[q.1]? = some (some (.bor xs))
def kE (p p1:aG):Prop:=p1.length=p.length/\∀(i:Nat) (s:Sl),p[i]? = some (some s)->s.mu=true->∃n,p1[i]? = some (some n)/\n.mu=true
theorem kE.refl (p:aG):kE p p:=⟨rfl,λ_ s h m=>⟨s,h,m⟩⟩
theorem kE.trans {p p1 p2:aG} (a:kE p p1) (b:kE p1 p2):kE p p2:=⟨b.1.trans a.1,λi s h m=>let ⟨s1,h1,m1⟩:=a.2 i s h m;b.2 i s1 h1 m1⟩
def kI (K:PySem.W.Frag) (p:aG) (n:St) (F:Hp):Ev->V->Prop
 | .fz x,v=>Rep K F x v
 | .ow i,v=>(∃s,p[i]? = some (some s)/\s.mu=true)/\n[i]? = some (some v)
theorem kI.mono {K:PySem.W.Frag} {p p1:aG} {n:St} {F F1:Hp} {e:Ev} {v:V} (h:kI K p n F e v) (s:aM F F1) (sh:kE p p1):kI K p1 n F1 e v:=by
 cases e with
 | fz x=>exact Rep.mono s h
 | ow i=>exact ⟨let ⟨⟨s,h1,m⟩,_⟩:=h;sh.2 i s h1 m,h.2⟩
abbrev TQ:=aG->(Ev->aG->Prop)->Prop
abbrev TN:=aG->(Rt->aG->Prop)->Prop
abbrev mQ:=aG->(Bool->aG->Prop)->Prop
abbrev TAQ:=aG->(List Ev->aG->Prop)->Prop
def BK (p:aG) (n:St) (a:Addr):Prop:=∀(i:Nat) (s:Sl),p[i]? = some (some s)->s.mu=true->n[i]?≠some (some (.ref a))
def Jd (C:Pc) (p:aG) (n:St) (F H:Hp):Rt->V->Prop
 | .rd x,v=>Rep C.K F x v
 | .ro xs,v=>∃a vs,v=.ref a/\F a=none/\C.H0 a=none/\H a=some (.lst vs)/\aK C.K F xs vs/\BK p n a
def XQ (C:Pc) (p:aG) (z:St) (F:Hp) (R:Ev->aG->Prop) (v:V) (B:Hp):Prop:=∃e n F1,RS C n z F1 B/\aM F F1/\kE p n/\kI C.K n z F1 e v/\R e n
def XN (C:Pc) (p:aG) (z:St) (F:Hp) (R:Rt->aG->Prop) (v:V) (B:Hp):Prop:=∃r n F1,RS C n z F1 B/\aM F F1/\kE p n/\Jd C n z F1 B r v/\R r n
def XT (C:Pc) (p:aG) (z:St) (F:Hp) (R:Bool->aG->Prop) (b:Bool) (B:Hp):Prop:=∃n F1,RS C n z F1 B/\aM F F1/\kE p n/\R b n
inductive mR (K:PySem.W.Frag) (p:aG) (σ:St) (F:Hp):List Ev->List V->Prop
 | nil:mR K p σ F [] []
 | cons {e v es vs}:kI K p σ F e v->mR K p σ F es vs->mR K p σ F (e::es) (v::vs)
def XA (C:Pc) (p:aG) (z:St) (F:Hp) (R:List Ev->aG->Prop) (vs:List V) (B:Hp):Prop:=∃es n F1,RS C n z F1 B/\aM F F1/\kE p n/\mR C.K n z F1 es vs/\R es n
def Up (C:Pc) (t:TQ):TE:=λσ H Q=>∃p F R,RS C p σ F H/\t p R/\∀v H1,XQ C p σ F R v H1->Q v H1
def lD (C:Pc) (t:TN):TE:=λσ H Q=>∃p F R,RS C p σ F H/\t p R/\∀v H1,XN C p σ F R v H1->Q v H1
def gj (C:Pc) (t:mQ):TT:=λσ H Q=>∃p F R,RS C p σ F H/\t p R/\∀b H1,XT C p σ F R b H1->Q b H1
def gA (C:Pc) (t:TAQ):TA:=λσ H Q=>∃p F R,RS C p σ F H/\t p R/\∀vs H1,XA C p σ F R vs H1->Q vs H1
section
variable {X:Cx} {C:Pc} {p:aG} {σ:St} {F H:Hp}
theorem QE.mk (h:PE X e t) (hi:∀p σ F H R,RS C p σ F H->t' p R->t σ H (XQ C p σ F R)):PE X e (Up C t'):=λpins s σ H Q I n=>by
 obtain ⟨p,F,R,z,D,J⟩:=n
 exact bh (h pins s σ H _ I (hi p σ F H R z D)) λ_ _ n=>by obtain ⟨v,H1,O,B,q1⟩:=n;exact ⟨v,H1,O,B,J v H1 q1⟩
theorem QN.mk (h:PE X e t) (hi:∀p σ F H R,RS C p σ F H->t' p R->t σ H (XN C p σ F R)):PE X e (lD C t'):=λpins s σ H Q I n=>by
 obtain ⟨p,F,R,z,D,J⟩:=n
 exact bh (h pins s σ H _ I (hi p σ F H R z D)) λ_ _ n=>by obtain ⟨v,H1,O,B,q1⟩:=n;exact ⟨v,H1,O,B,J v H1 q1⟩
theorem QT.mk (h:PT X e t) (hi:∀p σ F H R,RS C p σ F H->t' p R->t σ H (XT C p σ F R)):PT X e (gj C t'):=λpins s σ H Q I n=>by
 obtain ⟨p,F,R,z,B,D⟩:=n
 exact bh (h pins s σ H _ I (hi p σ F H R z B)) λ_ _ n=>by obtain ⟨H1,J,q1⟩:=n;exact ⟨H1,J,D _ H1 q1⟩
theorem QW.mk (h:PW X e t) (hi:∀p σ F H R,RS C p σ F H->t' p R->t σ H (XT C p σ F R)):PW X e (gj C t'):=λz pins s σ H Q I n=>by
 obtain ⟨p,F,R,B,D,J⟩:=n
 exact bh (h z pins s σ H _ I (hi p σ F H R B D)) λ_ _ n=>by obtain ⟨H1,O,q1⟩:=n;exact ⟨H1,O,J _ H1 q1⟩
theorem QA.mk (h:PA X es t) (hi:∀p σ F H R,RS C p σ F H->t' p R->t σ H (XA C p σ F R)):PA X es (gA C t'):=λpos pins s σ H Q I n=>by
 obtain ⟨p,F,R,z,D,J⟩:=n
 exact bh (h pos pins s σ H _ I (hi p σ F H R z D)) λ_ _ n=>by obtain ⟨vs,H1,O,B,q1⟩:=n;exact ⟨vs,H1,O,B,J vs H1 q1⟩
theorem up1 {D:TQ} {B:Ev->aG->Prop} {Q:V->Hp->Prop} (rs:RS C p σ F H) (O:D p B)
  (k:∀e n v F1 H1,RS C n σ F1 H1->aM F F1->kE p n->kI C.K n σ F1 e v->B e n->Q v H1):Up C D σ H Q:=
 ⟨p,F,B,rs,O,λv H1 I=>by obtain ⟨e,n,F1,z,J,sh,U,q⟩:=I;exact k e n v F1 H1 z J sh U q⟩
theorem pG {D:mQ} {B:Bool->aG->Prop} {Q:Bool->Hp->Prop} (rs:RS C p σ F H) (O:D p B)
  (k:∀b n F1 H1,RS C n σ F1 H1->aM F F1->kE p n->B b n->Q b H1):gj C D σ H Q:=
 ⟨p,F,B,rs,O,λb H1 I=>by obtain ⟨n,F1,z,J,sh,q⟩:=I;exact k b n F1 H1 z J sh q⟩
theorem O5 {B:TN} (rs:RS C p σ F H) (J:B p R1)
  (k:∀r n v F1 H1,RS C n σ F1 H1->aM F F1->kE p n->Jd C n σ F1 H1 r v->R1 r n->Q v H1):lD C B σ H Q:=
 ⟨p,F,R1,rs,J,λv H1 D=>by obtain ⟨e,n,F1,z,I,sh,O,q⟩:=D;exact k e n v F1 H1 z I sh O q⟩
theorem dz {D:TAQ} {B:List Ev->aG->Prop} {Q:List V->Hp->Prop} (rs:RS C p σ F H) (O:D p B)
  (k:∀es n vs F1 H1,RS C n σ F1 H1->aM F F1->kE p n->mR C.K n σ F1 es vs->B es n->Q vs H1):gA C D σ H Q:=
 ⟨p,F,B,rs,O,λv H1 I=>by obtain ⟨e,n,F1,z,J,sh,U,q⟩:=I;exact k e n v F1 H1 z J sh U q⟩
theorem tV {ta Z:TQ} {R:Ev->Ev->aG->Prop} {Q:V->V->Hp->Prop} (rs:RS C p σ F H) (ht:ta p λe1 n=>Z n λe2 p2=>R e1 e2 p2)
  (k:∀e1 e2 n D B F1 H1,RS C n σ F1 H1->aM F F1->kE p n->kI C.K n σ F1 e1 D->kI C.K n σ F1 e2 B->R e1 e2 n->Q D B H1):Up C ta σ H λx H1=>Up C Z σ H1 λy H2=>Q x y H2:=
 up1 rs ht λe1 n D F1 H1 O s1 I Y q1=>up1 O q1 λe2 p2 B F2 H2 J s2 z U q2=>
  k e1 e2 p2 D B F2 H2 J (s1.trans s2) (I.trans z) (Y.mono s2 z) U q2
def ab4:D->Bool
 | .lst _=>false
 | _=>true
theorem uJ {e:Ev} {v:V} {x:D} (z:kI C.K p σ F e v) (h:lk p e=x) (n:ab4 x=true:=by rfl):Rep C.K F x v:=by
 cases e with
 | fz y=>exact (show y=x from h)▸z
 | ow j=>
  obtain ⟨⟨s,h1,m⟩,_⟩:=z
  dsimp only [lk] at h
  rw [h1] at h
  subst h
  cases s with
  | d x=>cases m
  | own xs=>cases n
  | bor xs=>cases n
theorem aP {e:Ev} {v:V} {i:Int} (n:kI C.K p σ F e v) (h:lk p e=.int i):v=.int i:=by cases uJ n h;rfl
theorem o_ (n:kI C.K p σ F e v) (h:lk p e=.bl b):v=.bl b:=by cases uJ n h;rfl
theorem U9 (n:kI C.K p σ F e v) (h:lk p e=.non):v=.non:=by cases uJ n h;rfl
theorem cu (n:kI C.K p σ F e v) (h:lk p e=.str b):v=.str b:=by cases uJ n h;rfl
theorem cZ (n:kI C.K p σ F e v) (h:lk p e=.atom w):v=w:=by cases uJ n h;rfl
theorem ig (rs:RS C p σ F H) (z:kI C.K p σ F e v) (h:lk p e=.lst ds):∃a vs,v=.ref a/\H a=some (.lst vs)/\aK C.K F ds vs:=by
 cases e with
 | fz x=>
  dsimp only [lk] at h;subst h
  cases z with
  | lst q r=>exact ⟨_,_,rfl,rs.sub _ _ q,r⟩
 | ow j=>
  obtain ⟨⟨s,h1,m⟩,h2⟩:=z
  dsimp only [lk] at h
  rw [h1] at h
  obtain ⟨w,e1,sr⟩:=rs.sl j s h1
  rw [h2] at e1;cases e1
  cases s with
  | d x=>cases m
  | own xs=>
   obtain ⟨a,vs,rfl,_,_,n,r⟩:=sr
   cases h
   exact ⟨a,vs,rfl,n,r⟩
  | bor xs=>
   obtain ⟨a,vs,rfl,_,_,n,r⟩:=sr
   cases h
   exact ⟨a,vs,rfl,n,r⟩
theorem Je {e:Ev} {v:V} {ds:List D} (rs:RS C p σ F H) (n:kI C.K p σ F e v) (h:lk p e=.tup ds):∃a vs,v=.ref a/\H a=some (.tup vs)/\aK C.K F ds vs:=by
 cases uJ n h with
 | tup q r=>exact ⟨_,_,rfl,rs.sub _ _ q,r⟩
theorem Jf {ns:List Int} (rs:RS C p σ F H) (n:kI C.K p σ F e v) (h:lk p e=.vY ns):∃a,v=.ref a/\iI C.K H a (ns.map V.int):=by
 cases uJ n h with
 | vY q=>exact ⟨_,rfl,rs.sub.seq q⟩
theorem Jg {e:Ev} {v:V} {ks:List Key} {ds:List D} (rs:RS C p σ F H) (n:kI C.K p σ F e v) (h:lk p e=.sO ks ds):∃a vs,v=.ref a/\H a=some (.dK (ks.zip vs))/\ks.length=vs.length/\aK C.K F ds vs:=by
 cases uJ n h with
 | sO q l r=>exact ⟨_,_,rfl,rs.sub _ _ q,l,r⟩
theorem U_ {e:Ev} {v:V} {n:Addr} (rs:RS C p σ F H) (z:kI C.K p σ F e v) (h:lk p e=.exc n):∃a,v=.ref a/\H a=some (XO a n):=by
 cases uJ z h with
 | exc q=>exact ⟨_,rfl,rs.sub _ _ q⟩
theorem RS.laid (rs:RS C p σ F H) (O:H a=none):RS C p σ F (upd H a o):=by
 have sm:=cP O o
 refine ⟨rs.sub.trans sm,rs.ext,rs.new,λb u e n=>sm b u (rs.keep b u e n),λb n e=>?_,rs.len,λi s e=>?_,rs.apart,rs.pin⟩
 ·have:=rs.grow b n
  cases q:H b with
  | none=>exact this q
  | some u=>rw [sm b u q] at e;cases e
 ·obtain ⟨v,e1,r⟩:=rs.sl i s e
  refine ⟨v,e1,?_⟩
  cases s with
  | d x=>exact r
  | own xs=>obtain ⟨b,vs,J,I,D,B,z⟩:=r;exact ⟨b,vs,J,I,D,sm _ _ B,z⟩
  | bor xs=>obtain ⟨b,vs,J,I,D,B,z⟩:=r;exact ⟨b,vs,J,I,D,sm _ _ B,z⟩
theorem RS.free {a:Addr} (rs:RS C p σ F H) (B:H a=none):F a=none/\C.H0 a=none/\BK p σ a:=by
 refine ⟨rs.sub.free B,?_,λi s e m z=>?_⟩
 ·cases q:C.H0 a with
  | none=>rfl
  | some o=>exact absurd B (rs.grow a (by rw [q];intro w;cases w))
 ·obtain ⟨v,e1,r⟩:=rs.sl i s e
  rw [z] at e1;cases e1
  cases s with
  | d x=>cases m
  | own xs=>obtain ⟨b,vs,D,O,J,n,I⟩:=r;cases D;rw [B] at n;cases n
  | bor xs=>obtain ⟨b,vs,D,O,J,n,I⟩:=r;cases D;rw [B] at n;cases n
theorem RS.freeze (rs:RS C p σ F H) (Y:F a=none) (h0:C.H0 a=none) (U:H a=some o) (O:BK p σ a):RS C p σ (upd F a o) H:=by
 have sm:=cP Y o
 refine ⟨λb u e=>?_,rs.ext.trans sm,λb u e=>?_,rs.keep,rs.grow,rs.len,λi s e=>?_,rs.apart,rs.pin⟩
 ·by_cases n:b=a
  ·subst n;rw [aN] at e;cases e;exact U
  ·rw [aC n] at e;exact rs.sub b u e
 ·by_cases n:b=a
  ·subst n;exact .inr (.inl h0)
  ·rw [aC n] at e;exact rs.new b u e
 ·obtain ⟨v,e1,r⟩:=rs.sl i s e
  refine ⟨v,e1,?_⟩
  cases s with
  | d x=>exact Rep.mono sm r
  | own xs=>
   obtain ⟨b,vs,rfl,J,I,D,B⟩:=r
   have n:b≠a:=λz=>O i _ e rfl (z▸e1)
   exact ⟨b,vs,rfl,by rw [aC n];exact J,I,D,B.mono sm⟩
  | bor xs=>
   obtain ⟨b,vs,rfl,J,I,D,B⟩:=r
   have n:b≠a:=λz=>O i _ e rfl (z▸e1)
   exact ⟨b,vs,rfl,by rw [aC n];exact J,I,D,B.mono sm⟩
theorem RS.put (rs:RS C p σ F H) (n:H a=none):RS C p σ (upd F a o) (upd H a o):=by
 obtain ⟨h1,h2,z⟩:=rs.free n
 exact (rs.laid (o:=o) n).freeze h1 h2 aN z
theorem RS.write {s:Sl} (rs:RS C p σ F H) (Y:p[i]? = some (some s)) (m:s.mu=true) (hσ:σ[i]? = some (some (.ref a))) (hr:aK C.K F ys us) :
  RS C (p.set i (some (s.put ys))) σ F (upd H a (.lst us))/\kE p (p.set i (some (s.put ys))):=by
 have hi:i<p.length:=(zx.mp Y).1
 obtain ⟨v,e1,r⟩:=rs.sl i s Y
 rw [hσ] at e1;cases e1
 have fa:F a=none/\(C.H0 a=none\/∃q∈C.bs,q.2=a)/\∃vs,H a=some (.lst vs):=by
  cases s with
  | d x=>cases m
  | own xs=>obtain ⟨b,vs,e,B,I,J,U⟩:=r;cases e;exact ⟨B,.inl I,vs,J⟩
  | bor xs=>obtain ⟨b,vs,e,B,I,J,U⟩:=r;cases e;exact ⟨B,.inr I,vs,J⟩
 obtain ⟨fa,ha,vs0,hH⟩:=fa
 have hm:(s.put ys).mu=true:=by cases s<;>first|rfl|cases m
 refine ⟨⟨λb u e=>?_,rs.ext,rs.new,λb u e n=>?_,λb n e=>?_,by rw [ye];exact rs.len,λj s' e=>?_,λj k s1 s2 b hjk e1 m1 e2 m2 x1 x2=>?_,λq hq=>?_⟩,⟨ye,λj s' e m'=>?_⟩⟩
 ·rw [aC (λz=>by rw [z,fa] at e;cases e)];exact rs.sub b u e
 ·have O:b≠a:=λz=>by
   subst z
   rcases ha with z|⟨q,hq,z⟩
   ·rw [z] at e;cases e
   ·exact n q hq z
  rw [aC O];exact rs.keep b u e n
 ·by_cases O:b=a
  ·subst O;rw [aN] at e;cases e
  ·rw [aC O] at e;exact rs.grow b n e
 ·by_cases D:j=i
  ·subst D
   rw [zM hi] at e
   cases e
   refine ⟨.ref a,hσ,?_⟩
   cases s with
   | d x=>cases m
   | own xs=>obtain ⟨b,vs,e,B,I,J,U⟩:=r;cases e;exact ⟨a,us,rfl,fa,I,aN,hr⟩
   | bor xs=>obtain ⟨b,vs,e,B,I,J,U⟩:=r;cases e;exact ⟨a,us,rfl,fa,I,aN,hr⟩
  ·rw [zz (Ne.symm D)] at e
   obtain ⟨v,e1,r'⟩:=rs.sl j s' e
   refine ⟨v,e1,?_⟩
   cases s' with
   | d x=>exact r'
   | own xs=>
    obtain ⟨b,vs,rfl,B,I,J,U⟩:=r'
    have O:b≠a:=λz=>rs.apart j i _ _ a D e rfl Y m (z▸e1) hσ
    exact ⟨b,vs,rfl,B,I,by rw [aC O];exact J,U⟩
   | bor xs=>
    obtain ⟨b,vs,rfl,B,I,J,U⟩:=r'
    have O:b≠a:=λz=>rs.apart j i _ _ a D e rfl Y m (z▸e1) hσ
    exact ⟨b,vs,rfl,B,I,by rw [aC O];exact J,U⟩
 ·have back:∀(j:Nat) (s':Sl),(p.set i (some (s.put ys)))[j]? = some (some s')->∃Z,p[j]? = some (some Z)/\(s'.mu=true->Z.mu=true):=λj s' e=>by
   by_cases D:j=i
   ·subst D;exact ⟨s,Y,λ_=>m⟩
   ·rw [zz (Ne.symm D)] at e;exact ⟨s',e,id⟩
  obtain ⟨t1,f1,g1⟩:=back j s1 e1
  obtain ⟨t2,f2,g2⟩:=back k s2 e2
  exact rs.apart j k t1 t2 b hjk f1 (g1 m1) f2 (g2 m2) x1 x2
 ·obtain ⟨z1,xs,B⟩:=rs.pin q hq
  refine ⟨z1,?_⟩
  by_cases D:q.1=i
  ·rw [D] at B ⊢
   rw [Y] at B;cases B
   exact ⟨ys,by rw [zM hi];rfl⟩
  ·exact ⟨xs,by rw [zz (Ne.symm D)];exact B⟩
 ·by_cases D:j=i
  ·subst D;exact ⟨_,zM hi,hm⟩
  ·exact ⟨s',by rw [zz (Ne.symm D)];exact e,m'⟩
end
section
variable {X:Cx} {C:Pc} {a b c e:Expr} {ta tb tc:TQ} {pos:Pos} {K:PySem.W.Frag}
def O6 (i:Nat):TQ:=λp Q=>∃s,p[i]? = some (some s)/\Q (s.ev i) p
theorem YT {i:Nat} (h:PE X e (v_ i)):PE X e (Up C (O6 i)):=QE.mk h λp σ F H R n z=>by
 obtain ⟨s,e1,q⟩:=z
 obtain ⟨v,e2,r⟩:=n.sl i s e1
 refine ⟨v,e2,s.ev i,p,F,n,.refl _,.refl _,?_,q⟩
 cases s with
 | d x=>exact r
 | own xs=>exact ⟨⟨_,e1,rfl⟩,e2⟩
 | bor xs=>exact ⟨⟨_,e1,rfl⟩,e2⟩
def qC (x:D):TQ:=λp Q=>Q (.fz x) p
theorem jc {v:V} {x:D} (h:PE X e (tC v)) (r:∀F,Rep C.K F x v):PE X e (Up C (qC x)):=QE.mk h λp σ F H R n q=>⟨.fz x,p,F,n,.refl _,.refl _,r F,q⟩
def q2 (Cn:Int->Int->Prop) (g:Int->Int->D) (z n:TQ):TQ:=λp Q=>z p λe1 B=>n B λe2 p2=>∃i j,lk p2 e1=.int i/\lk p2 e2=.int j/\Cn i j/\Q (.fz (g i j)) p2
def Gk (g:Int->Int->D) (z n:TQ):TQ:=λp Q=>z p λe1 B=>n B λe2 p2=>∃i j,lk p2 e1=.int i/\lk p2 e2=.int j/\Q (.fz (g i j)) p2
theorem aY {p p1:aG} {n:St} {F F1 H1:Hp} {R:Ev->aG->Prop} {x:D} {v:V} (rs:RS C p1 n F1 H1) (z:aM F F1) (sh:kE p p1) (r:Rep C.K F1 x v) (q:R (.fz x) p1):XQ C p n F R v H1:=⟨.fz x,p1,F1,rs,z,sh,r,q⟩
theorem O7 (U:g8 X (binaryOp op) (rI Cn gv)) (Y:∀i j F,Rep C.K F (g i j) (gv i j)) (ha:PE X a (Up C ta)) (Z:PE X b (Up C tb)) :
  PE X (.BinOp a op b pos) (Up C (q2 Cn g ta tb)):=
 QE.mk (tu U ha Z) λp σ F H R J O=>tV J O λe1 e2 p1 v1 v2 F1 H1 n I sh B z D=>by obtain ⟨i,j,h1,h2,c,q⟩:=D;exact ⟨i,j,aP B h1,aP z h2,c,aY n I sh (Y i j F1) q⟩
theorem Jh (U:g8 X (binaryOp op) (Bb gv)) (Y:∀i j F,Rep C.K F (g i j) (gv i j)) (ha:PE X a (Up C ta)) (Z:PE X b (Up C tb)) :
  PE X (.BinOp a op b pos) (Up C (Gk g ta tb)):=
 QE.mk (tu U ha Z) λp σ F H R J O=>tV J O λe1 e2 p1 v1 v2 F1 H1 n I sh B z D=>by obtain ⟨i,j,h1,h2,q⟩:=D;exact ⟨i,j,aP B h1,aP z h2,aY n I sh (Y i j F1) q⟩
theorem cG (z:PE X a (Up C ta)) (n:PE X b (Up C tb)):PE X (.BinOp a .Add b pos) (Up C (Gk (λi j=>.int (i+j)) ta tb)):=Jh Ua (λ_ _ _=>.int _) z n
theorem bQ (z:PE X a (Up C ta)) (n:PE X b (Up C tb)):PE X (.BinOp a .Sub b pos) (Up C (Gk (λi j=>.int (i - j)) ta tb)):=Jh Ub (λ_ _ _=>.int _) z n
theorem jH (z:PE X a (Up C ta)) (n:PE X b (Up C tb)):PE X (.BinOp a .Mult b pos) (Up C (q2 Bh (λi j=>.int (i * j)) ta tb)):=O7 Uc (λ_ _ _=>.int _) z n
def Fits (j:Int):Prop:=j.natAbs.log2<9000
theorem Fits.of {j:Int} {n:Nat} (h0:0<j) (h:j<2 ^ n) (z:n<=9000):Fits j:=by
 unfold Fits
 have h1:j.natAbs<2 ^ n:=by
  have:((j.natAbs:Nat):Int)=j:=by omega
  have h2:((j.natAbs:Nat):Int)<((2 ^ n:Nat):Int):=by rw [this];push_cast;exact h
  exact_mod_cast h2
 have h2:j.natAbs≠0:=by omega
 exact zK ((Nat.log2_lt h2).mpr h1) z
def DR (i j:Int):Prop:=0<j/\(j<2 ^ 64\/Fits j)
theorem Ji:g8 X (binaryOp .FloorDiv) (rI DR λi j=>.int (i / j)):=λpins s σ H x y v u Q I J D ⟨i,j,h1,h2,⟨B,z⟩,q⟩=>Ii pins s σ H x y v u Q I J D ⟨i,j,h1,h2,⟨B,by
 rcases z with z|z
 ·exact Fits.of (n:=64) B z (by decide)
 ·exact z⟩,q⟩
theorem ji (z:PE X a (Up C ta)) (n:PE X b (Up C tb)):PE X (.BinOp a .FloorDiv b pos) (Up C (q2 DR (λi j=>.int (i / j)) ta tb)):=O7 Ji (λ_ _ _=>.int _) z n
def Va (i j:Int):Prop:=0<j
theorem qJ (z:PE X a (Up C ta)) (n:PE X b (Up C tb)):PE X (.BinOp a .Mod b pos) (Up C (q2 Va (λi j=>.int (i % j)) ta tb)):=O7 (Cn:=Va) Ud (λ_ _ _=>.int _) z n
theorem DW (z:PE X a (Up C ta)) (n:PE X b (Up C tb)):PE X (.BinOp a .Pow b pos) (Up C (q2 T_ (λi j=>.int (i ^ j.toNat)) ta tb)):=O7 Ue (λ_ _ _=>.int _) z n
theorem YW (z:PE X a (Up C ta)) (n:PE X b (Up C tb)):PE X (.BinOp a .BitAnd b pos) (Up C (Gk (λi j=>.int (Builtin.bitAnd i j)) ta tb)):=Jh Ug (λ_ _ _=>.int _) z n
def q1 (g:Int->D) (z:TQ):TQ:=λp Q=>z p λe1 n=>∃i,lk n e1=.int i/\Q (.fz (g i)) n
def fW (t:TQ):mQ:=λp Q=>t p λe n=>∃b,lk n e=.bl b/\Q b n
theorem DX {z:CmpOp} {J:Int->Int->Bool} (ho:g8 X (compareOp z) (Bb λi j=>.bl (J i j))) (hm:behindInMarks z b=false) (ha:PE X a (Up C ta)) (B:PE X b (Up C tb)) :
  PT X (.Compare a [z] [b] pos) (gj C (fW (Gk (λi j=>.bl (J i j)) ta tb))):=
 QT.mk (jg ho ha B hm) λp σ F H R Y ht=>tV Y ht λe1 e2 Z v1 v2 F1 H1 n U sh I D O=>by obtain ⟨i,j,h1,h2,b,B,q⟩:=O;exact ⟨i,j,aP I h1,aP D h2,b,by cases B;rfl,Z,F1,n,U,sh,q⟩
theorem sS (z:PE X a (Up C ta)) (n:PE X b (Up C tb)):PT X (.Compare a [.Lt] [b] pos) (gj C (fW (Gk (λi j=>.bl (decide (i<j))) ta tb))):=DX RK (fO _) z n
theorem ab5 (z:PE X a (Up C ta)) (n:PE X b (Up C tb)):PT X (.Compare a [.LtE] [b] pos) (gj C (fW (Gk (λi j=>.bl (decide (i<=j))) ta tb))):=DX oZ (fO _) z n
theorem xK (z:PE X a (Up C ta)) (n:PE X b (Up C tb)):PT X (.Compare a [.Gt] [b] pos) (gj C (fW (Gk (λi j=>.bl (decide (j<i))) ta tb))):=DX RL (fO _) z n
theorem Gm (z:PE X a (Up C ta)) (n:PE X b (Up C tb)):PT X (.Compare a [.GtE] [b] pos) (gj C (fW (Gk (λi j=>.bl (decide (j<=i))) ta tb))):=DX Yp (fO _) z n
noncomputable def kW (x y:D):Bool:=@decide (x=y) (Classical.propDecidable _)
inductive dZ:D->D->Prop
 | int (i j:Int):dZ (.int i) (.int j)
 | bl (i j:Bool):dZ (.bl i) (.bl j)
 | str (i j:Str):dZ (.str i) (.str j)
theorem pO (i j:Int):kW (.int i) (.int j)=decide (i=j):=decide_eq_decide.mpr (iff_of_eq (D.int.injEq i j))
theorem Jj (i j:Bool):kW (.bl i) (.bl j)=decide (i=j):=decide_eq_decide.mpr (iff_of_eq (D.bl.injEq i j))
theorem uK (i j:Str):kW (.str i) (.str j)=decide (i=j):=decide_eq_decide.mpr (iff_of_eq (D.str.injEq i j))
theorem gB (x:D):kW x x=true:=by unfold kW;simp
theorem O8 (i j:Int):dZ (.int i) (.int j)=True:=eq_true (.int i j)
theorem Vb (i j:Bool):dZ (.bl i) (.bl j)=True:=eq_true (.bl i j)
theorem O9 (i j:Str):dZ (.str i) (.str j)=True:=eq_true (.str i j)
theorem uL {x y:D} {Z Y:Ev} {U O:V} {p:aG} {J:St} {F:Hp} (d:dZ x y) (z:kI C.K p J F Z U) (n:kI C.K p J F Y O) (I:lk p Z=x) (B:lk p Y=y):HF U O (kW x y):=by
 cases d with
 | int i j=>rw [aP z I,aP n B,pO];exact .int i j
 | bl i j=>rw [o_ z I,o_ n B,Jj];exact .bl i j
 | str i j=>rw [cu z I,cu n B,uK];exact .str i j
def XR (f:Bool->Bool) (z n:TQ):TQ:=λp Q=>z p λe1 B=>n B λe2 p2=>dZ (lk p2 e1) (lk p2 e2)/\Q (.fz (.bl (f (kW (lk p2 e1) (lk p2 e2))))) p2
theorem sU (hK:X.K=C.K) (hu:X.A.units+64<cLine) (Y:PE X a (Up C ta)) (U:PE X b (Up C tb)):PE X (.Compare a [.Eq] [b] pos) (Up C (XR (λk=>k) ta tb)):=
 QE.mk (pL RG Y U (fO _)) λp σ F H R J O=>tV J O λe1 e2 p1 v1 Z F1 H1 n I sh B z D=>by obtain ⟨d,q⟩:=D;exact ⟨_,uL d B z rfl rfl,aY n I sh (.bl _) q⟩
theorem ab6 (hK:X.K=C.K) (hu:X.A.units+64<cLine) (Y:PE X a (Up C ta)) (U:PE X b (Up C tb)):PE X (.Compare a [.NotEq] [b] pos) (Up C (XR (λk=>!k) ta tb)):=
 QE.mk (pL RJ Y U (fO _)) λp σ F H R J O=>tV J O λe1 e2 p1 v1 Z F1 H1 n I sh B z D=>by obtain ⟨d,q⟩:=D;exact ⟨_,uL d B z rfl rfl,aY n I sh (.bl _) q⟩
theorem jJ (hK:X.K=C.K) (hu:X.A.units+64<cLine) (ha:PE X a (Up C ta)) (Z:PE X b (Up C tb)):PT X (.Compare a [.Eq] [b] pos) (gj C (fW (XR (λk=>k) ta tb))):=
 QT.mk (jg RG ha Z (fO _)) λp σ F H R J U=>tV J U λe1 e2 O v1 v2 F1 H1 n I sh B z D=>by obtain ⟨d,k,Y,q⟩:=D;exact ⟨_,uL d B z rfl rfl,k,by cases Y;rfl,O,F1,n,I,sh,q⟩
theorem qK (hK:X.K=C.K) (hu:X.A.units+64<cLine) (ha:PE X a (Up C ta)) (Z:PE X b (Up C tb)):PT X (.Compare a [.NotEq] [b] pos) (gj C (fW (XR (λk=>!k) ta tb))):=
 QT.mk (jg RJ ha Z (fO _)) λp σ F H R J U=>tV J U λe1 e2 O v1 v2 F1 H1 n I sh B z D=>by obtain ⟨d,k,Y,q⟩:=D;exact ⟨_,uL d B z rfl rfl,k,by cases Y;rfl,O,F1,n,I,sh,q⟩
def YX:D->Bool
 | .non=>true
 | .atom v=>decide (v=.non)
 | _=>false
theorem Jk (rs:RS C p σ F H) (n:kI C.K p σ F e1 v):decide (v=.non)=YX (lk p e1):=by
 cases e1 with
 | fz x=>cases (show Rep C.K F x v from n)<;>rfl
 | ow i=>
  obtain ⟨⟨s,h1,m⟩,h2⟩:=n
  obtain ⟨w,e1,sr⟩:=rs.sl i s h1
  rw [h2] at e1;cases e1
  show _=YX (match p[i]? with|some (some s)=>s.val|_=>.non)
  rw [h1]
  cases s with
  | d x=>cases m
  | own xs=>obtain ⟨a,vs,rfl,_⟩:=sr;rfl
  | bor xs=>obtain ⟨a,vs,rfl,_⟩:=sr;rfl
def O_ (f:Bool->Bool) (z:TQ):TQ:=λp Q=>z p λe1 n=>Q (.fz (.bl (f (YX (lk n e1))))) n
theorem YZ {j pos'} (Y:PE X a (Up C ta)):PT X (.Compare a [.Is] [.Constant .none j pos'] pos) (gj C (fW (O_ (λk=>k) ta))):=
 QT.mk (Be (Tu Y)) λp σ F H R I O=>up1 I O λe1 J Z F1 H1 n D sh z B=>by obtain ⟨k,U,q⟩:=B;exact ⟨k,by cases U;rw [Jk n z],J,F1,n,D,sh,q⟩
theorem Jl {j pos'} (Y:PE X a (Up C ta)):PT X (.Compare a [.IsNot] [.Constant .none j pos'] pos) (gj C (fW (O_ (λk=>!k) ta))):=
 QT.mk (Be (NT Y)) λp σ F H R I O=>up1 I O λe1 J Z F1 H1 n D sh z B=>by obtain ⟨k,U,q⟩:=B;exact ⟨k,by cases U;rw [Jk n z],J,F1,n,D,sh,q⟩
def BL (f g:Int->Int->Bool) (D B z:TQ):TQ:=λp Q=>D p λe1 I=>B I λe2 p2=>∃i j,lk p2 e1=.int i/\lk p2 e2=.int j /\
 if f i j=true then z p2 λJ n=>∃k,lk n J=.int k/\Q (.fz (.bl (g j k))) n else Q (.fz (.bl false)) p2
theorem dB {c:Prop} [Decidable c] {A B z B':Prop} (I:A->z) (D:B->B') (h:if c then A else B):if c then z else B':=by
 by_cases n:c
 ·rw [zo n] at h ⊢;exact I h
 ·rw [zi n] at h ⊢;exact D h
theorem pP (ho:g8 X (compareOp op) (Bb λi j=>.bl (f i j))) (J:g8 X (compareOp op') (Bb λi j=>.bl (g i j))) (ha:PE X a (Up C ta)) (hb:PE X b (Up C tb)) (hc:PE X c (Up C tc))
  (hm:lastMarks [op,op'] [b,c]=false:=by with_unfolding_all rfl):PT X (.Compare a [op,op'] [b,c] pos) (gj C (fW (BL f g ta tb tc))):=
 QT.mk (HJ ho J ha hb hc hm) λp σ F H R rs ht=>tV rs ht λe1 e2 p1 v1 v2 F1 H1 n Z sh Y z B=>by
  obtain ⟨i,j,h1,h2,q⟩:=B
  refine ⟨i,j,aP Y h1,aP z h2,f i j,rfl,?_⟩
  refine dB (λq=>?_) (λq=>?_) q
  ·refine up1 n q λe3 p3 v3 F3 H3 I s3 D U B=>?_
   obtain ⟨k,h3,l,O,q3⟩:=B
   refine ⟨j,k,aP z h2,aP U h3,l,by cases O;rfl,p3,F3,I,Z.trans s3,sh.trans D,q3⟩
  ·obtain ⟨l,O,q⟩:=q
   exact ⟨l,by cases O;rfl,p1,F1,n,Z,sh,q⟩
variable {tA NZ:mQ} {rest:List Expr}
theorem fu {t : TQ} (h : PE X e (Up C t)) (he : ∀ whole, isTrue e X.env whole = (do let v ← whole; standAt e.pos; holding [v] (truthy v)) := by intro _; rfl) : PT X e (gj C (fW t)) :=
  QT.mk (Tw h he) λp σ F H R D J => up1 D J λe1 I U F1 H1 n B sh z ⟨k, O, q⟩ => ⟨k, o_ z O, I, F1, n, B, sh, q⟩
def Vc (t u:mQ):mQ:=λp Q=>t p λc n=>if c=true then u n Q else Q false n
def qOr (t u:mQ):mQ:=λp Q=>t p λc n=>if c=true then Q true n else u n Q
def Vd (t:mQ):mQ:=λp Q=>t p λc n=>Q (!c) n
theorem Jm (n:PT X a (gj C tA)):PW X (.BoolOp .And [a] pos) (gj C tA):=pw_and1 n
theorem iK (n:PT X a (gj C tA)):PW X (.BoolOp .Or [a] pos) (gj C tA):=pw_or1 n
theorem w_and (Z:PT X a (gj C tA)) (Y:PW X (.BoolOp .And (b::rest) pos) (gj C NZ)):PW X (.BoolOp .And (a::b::rest) pos) (gj C (Vc tA NZ)):=
 QW.mk (pw_and Z Y) λp σ F H R J U=>pG J U λk O F1 H1 n D sh q=>dB (λq=>pG n q λk2 p2 F2 H2 B I z q2=>⟨p2,F2,B,D.trans I,sh.trans z,q2⟩) (λq=>⟨O,F1,n,D,sh,q⟩) q
theorem w_or (Z:PT X a (gj C tA)) (Y:PW X (.BoolOp .Or (b::rest) pos) (gj C NZ)):PW X (.BoolOp .Or (a::b::rest) pos) (gj C (qOr tA NZ)):=
 QW.mk (pw_or Z Y) λp σ F H R J U=>pG J U λk O F1 H1 n D sh q=>dB (λq=>⟨O,F1,n,D,sh,q⟩) (λq=>pG n q λk2 p2 F2 H2 B I z q2=>⟨p2,F2,B,D.trans I,sh.trans z,q2⟩) q
theorem d7 (J:PT X a (gj C tA)):PT X (.UnaryOp .Not a pos) (gj C (Vd tA)):=
 QT.mk (Tz J) λp σ F H R B I=>pG B I λk D F1 H1 n z sh q=>⟨D,F1,n,z,sh,q⟩
def Jo (B z:TQ):TQ:=λp Q=>B p λe n=>∃c,lk n e=.bl c/\if c=true then z n Q else Q (.fz (.bl false)) n
def Ve (B z:TQ):TQ:=λp Q=>B p λe n=>∃c,lk n e=.bl c/\if c=true then Q (.fz (.bl true)) n else z n Q
def Jp (z:TQ):TQ:=λp Q=>z p λe n=>∃c,lk n e=.bl c/\Q (.fz (.bl (!c))) n
theorem Jq {op} (h:PE X a (Up C ta)):PE X (.BoolOp op [a] pos) (Up C ta):=TF h
theorem Jr (ha:PE X a (Up C ta)) (hb:PE X (.BoolOp .And (b::rest) pos) (Up C tb)):PE X (.BoolOp .And (a::b::rest) pos) (Up C (Jo ta tb)):=
 QE.mk (TJ ha hb) λp σ F H R Y Z=>up1 Y Z λe1 p1 v1 F1 H1 n J sh I O=>by obtain ⟨k,hk,q⟩:=O;exact ⟨k,o_ I hk,dB (λq=>up1 n q λe2 p2 v2 F2 H2 B U z D q2=>⟨e2,p2,F2,B,J.trans U,sh.trans z,D,q2⟩) (λq=>aY n J sh (.bl _) q) q⟩
theorem Y0 (ha:PE X a (Up C ta)) (hb:PE X (.BoolOp .Or (b::rest) pos) (Up C tb)):PE X (.BoolOp .Or (a::b::rest) pos) (Up C (Ve ta tb)):=
 QE.mk (Yb ha hb) λp σ F H R Y Z=>up1 Y Z λe1 p1 v1 F1 H1 n J sh I O=>by obtain ⟨k,hk,q⟩:=O;exact ⟨k,o_ I hk,dB (λq=>aY n J sh (.bl _) q) (λq=>up1 n q λe2 p2 v2 F2 H2 B U z D q2=>⟨e2,p2,F2,B,J.trans U,sh.trans z,D,q2⟩) q⟩
theorem Vf (U:PE X a (Up C ta)):PE X (.UnaryOp .Not a pos) (Up C (Jp ta)):=
 QE.mk (TV U) λp σ F H R I J=>up1 I J λe1 Z Y F1 H1 n D sh z B=>by obtain ⟨k,O,q⟩:=B;exact ⟨k,o_ z O,aY n D sh (.bl _) q⟩
def qIf (t:mQ) (B z:TQ):TQ:=λp Q=>t p λc n=>if c=true then B n Q else z n Q
theorem uM (hc:PT X c (gj C tA)) (ha:PE X a (Up C ta)) (hb:PE X b (Up C tb)):PE X (.IfExp c a b pos) (Up C (qIf tA ta tb)):=
 QE.mk (Ht hc ha hb) λp σ F H R Y Z=>pG Y Z λk p1 F1 H1 D O sh q=>
  dB (λq=>up1 D q λe2 p2 U J H2 z I n B q2=>⟨e2,p2,J,z,O.trans I,sh.trans n,B,q2⟩) (λq=>up1 D q λe2 p2 U J H2 z I n B q2=>⟨e2,p2,J,z,O.trans I,sh.trans n,B,q2⟩) q
def qFz (t:TN):TQ:=λp Q=>t p λr n=>Q (.fz r.val) n
theorem Jd.fz {r:Rt} {v:V} {p:aG} {n:St} {F H:Hp} (rs:RS C p n F H) (h:Jd C p n F H r v):∃F1,RS C p n F1 H/\aM F F1/\Rep C.K F1 r.val v:=by
 cases r with
 | rd x=>exact ⟨F,rs,.refl _,h⟩
 | ro xs=>
  obtain ⟨a,vs,rfl,h1,h2,D,B,z⟩:=h
  exact ⟨_,rs.freeze h1 h2 D z,cP h1 _,.lst aN (B.mono (cP h1 _))⟩
theorem aq {t:TN} (h:PE X e (lD C t)):PE X e (Up C (qFz t)):=
 QE.mk h λp σ F H R I U=>O5 I U λr Z Y F1 H1 z D sh J q=>by
  obtain ⟨F2,n,B,O⟩:=J.fz z
  exact aY n (D.trans B) sh O q
def Pa (t:TQ):TN:=λp Q=>t p λe n=>∃x,e=.fz x/\Q (.rd x) n
theorem qM {t:TQ} (h:PE X e (Up C t)):PE X e (lD C (Pa t)):=
 QN.mk h λp σ F H R I U=>up1 I U λe1 J Y F1 H1 n D sh z B=>by obtain ⟨x,O,q⟩:=B;exact ⟨.rd x,J,F1,n,D,sh,by subst O;exact z,q⟩
variable {es:List Expr} {cz:TAQ}
def Gn:TAQ:=λp Q=>Q [] p
def kY (z:TQ) (n:TAQ):TAQ:=λp Q=>z p λx B=>n B λxs p2=>Q (x::xs) p2
theorem pq:PA X [] (gA C Gn):=QA.mk Ul λp σ F H R n q=>⟨[],p,F,n,.refl _,.refl _,.nil,q⟩
theorem cA (ha:PE X e (Up C ta)) (hr:PA X es (gA C cz)) (hs:starEach (e::es) X.env=(false,eval e X.env)::starEach es X.env:=by rfl):PA X (e::es) (gA C (kY ta cz)):=
 QA.mk (Oi ha hr hs) λp σ F H R Z ht=>up1 Z ht λe1 p1 v1 F1 H1 B Y sh J q=>dz B q λD p2 U F2 H2 z O n I q2=>
  ⟨e1::D,p2,F2,z,Y.trans O,sh.trans n,.cons (J.mono O n) I,q2⟩
def Nu:List Ev->Option (List D)
 | []=>some []
 | .fz x::r=>match Nu r with
  | some xs=>some (x::xs)
  | none=>none
 | .ow _::_=>none
theorem qN:∀{es:List Ev} {vs:List V} {xs:List D},mR C.K p σ F es vs->Nu es=some xs->aK C.K F xs vs
 | _,_,_,.nil,h=>by cases h;exact .nil
 | .fz x::r,_,xs,.cons h1 h2,h=>by
  unfold Nu at h
  cases e:Nu r with
  | none=>rw [e] at h;cases h
  | some ys=>rw [e] at h;cases h;exact .cons h1 (qN h2 e)
 | .ow i::r,_,xs,.cons h1 h2,h=>by cases h
def Vg (t:TAQ):TN:=λp Q=>t p λes n=>∃xs,Nu es=some xs/\xs.length<=100000/\Q (.ro xs) n
theorem jj (h:n<=100000):n<=sizeLine:=yi h (by decide)
theorem fY {p p1:aG} {z:St} {F F1 n:Hp} {R:Rt->aG->Prop} {xs:List D} {vs:List V} {a:Addr} (rs:RS C p1 z F1 n) (I:aM F F1) (sh:kE p p1) (B:n a=none) (r:aK C.K F1 xs vs) (q:R (.ro xs) p1):XN C p z F R (.ref a) (upd n a (.lst vs)):=by
 obtain ⟨h1,h2,J⟩:=rs.free B
 exact ⟨.ro xs,p1,F1,rs.laid B,I,sh,⟨a,vs,rfl,h1,h2,aN,r,J⟩,q⟩
theorem dG (h:PA X es (gA C cz)):PE X (.List es pos) (lD C (Vg cz)):=
 QN.mk (Uo h) λp σ F H R J U=>dz J U λes1 p1 D F1 H1 n I sh z B=>by
  obtain ⟨xs,O,Y,q⟩:=B
  have r:=qN z O
  exact ⟨jj (by rw [<-r.length];exact Y),λa Z=>fY n I sh Z r q⟩
def Vh (t:TAQ):TQ:=λp Q=>t p λes n=>∃xs,Nu es=some xs/\xs.length<=100000/\Q (.fz (.tup xs)) n
theorem DY {x1} (h:PA X es (gA C cz)):PE X (.Tuple es x1 pos) (Up C (Vh cz)):=
 QE.mk (Um h) λp σ F H R O Y=>dz O Y λes1 p1 I F1 H1 n J sh z D=>by
  obtain ⟨xs,U,Z,q⟩:=D
  have r:=qN z U
  refine ⟨jj (by rw [<-r.length];exact Z),λa B=>?_⟩
  obtain ⟨h1,h2,h3⟩:=n.free B
  exact aY (n.put B) (J.trans (cP h1 _)) sh (.tup aN (r.mono (cP h1 _))) q
end
def xM:D->Option (List D)
 | .lst ds=>some ds
 | .tup ds=>some ds
 | .vY ns=>some (ns.map D.int)
 | _=>none
def Vi:D->Option (List D)
 | .lst ds=>some ds
 | .vY ns=>some (ns.map D.int)
 | _=>none
def d_ (p:aG) (i:Nat):Option (List D):=match p[i]? with
 | some (some (.own xs))=>some xs
 | some (some (.bor xs))=>some xs
 | _=>none
def putL (p:aG) (i:Nat) (n:List D):aG:=match p[i]? with
 | some (some s)=>p.set i (some (s.put n))
 | _=>p
def cut {α:Type} (xs:List α) (lo hi:Option Int):List α:=(xs.drop (HT.vW xs.length 0 lo)).take (HT.vW xs.length xs.length hi - HT.vW xs.length 0 lo)
section
variable {X:Cx} {C:Pc} {a b c e:Expr} {ta tb tc:TQ} {pos:Pos} {K:PySem.W.Frag} {p:aG} {σ:St} {F H:Hp}
theorem aK.at {ds:List D} {vs:List V} {k:Int} {x:D} (r:aK K F ds vs) (h:h_ ds k=some x):∃v,h_ vs k=some v/\Rep K F x v:=by
 unfold h_ at h ⊢
 rw [r.length] at h
 cases e:wL vs.length k with
 | none=>rw [e] at h;cases h
 | some j=>rw [e] at h;exact r.get h
theorem aK.cut (r:aK K F ds vs) (lo hi:Option Int):aK K F (cut ds lo hi) (Gb vs lo hi):=by
 unfold L2.cut Gb
 rw [r.length]
 exact (r.drop _).take _
theorem Js (rs:RS C p σ F H) (z:kI C.K p σ F e1 v) (h:xM (lk p e1)=some ds):∃a vs,v=.ref a/\(iI C.K H a vs\/Dq C.K H a vs)/\aK C.K F ds vs:=by
 cases e:lk p e1 with
 | lst xs=>rw [e] at h;cases h;obtain ⟨a,vs,h1,h2,n⟩:=ig rs z e;exact ⟨a,vs,h1,.inl (.of h2),n⟩
 | tup xs=>rw [e] at h;cases h;obtain ⟨a,vs,h1,h2,n⟩:=Je rs z e;exact ⟨a,vs,h1,.inr (.of h2),n⟩
 | vY ns=>rw [e] at h;cases h;obtain ⟨a,h1,h2⟩:=Jf rs z e;exact ⟨a,_,h1,.inl h2,.mO ns⟩
 | _=>rw [e] at h;cases h
theorem Y4 {n:Ev} {v:V} {ds:List D} (rs:RS C p σ F H) (z:kI C.K p σ F n v) (h:Vi (lk p n)=some ds):∃a vs,v=.ref a/\iI C.K H a vs/\aK C.K F ds vs:=by
 cases e:lk p n with
 | lst xs=>rw [e] at h;cases h;obtain ⟨a,vs,h1,h2,B⟩:=ig rs z e;exact ⟨a,vs,h1,.of h2,B⟩
 | vY ns=>rw [e] at h;cases h;obtain ⟨a,h1,h2⟩:=Jf rs z e;exact ⟨a,_,h1,h2,.mO ns⟩
 | _=>rw [e] at h;cases h
def qIx (z n:TQ):TQ:=λp Q=>z p λe1 B=>n B λe2 p2=>∃ds k x,xM (lk p2 e1)=some ds/\lk p2 e2=.int k/\h_ ds k=some x/\Q (.fz x) p2
theorem Pb (h:X.K=K):Nt X (λx y H Q=>Ur K x y H Q\/Yv K x y H Q):=by subst h;exact Dv.or Us
theorem Pg (hK:X.K=C.K) (ha:PE X a (Up C ta)) (hb:PE X b (Up C tb)) (Z:mK b):PE X (.Subscript a b pos) (Up C (qIx ta tb)):=
 QE.mk (HX (Pb hK) ha hb Z) λp σ F H R U Y=>tV U Y λe1 e2 p1 v1 v2 F1 H1 n D sh B z O=>by
  obtain ⟨ds,k,x,h1,h2,h3,q⟩:=O
  obtain ⟨a1,vs,rfl,g,r⟩:=Js n B h1
  obtain ⟨v,J,I⟩:=r.at h3
  rw [aP z h2]
  rcases g with g|g
  ·exact .inl ⟨a1,vs,k,v,rfl,rfl,g,J,aY n D sh I q⟩
  ·exact .inr ⟨a1,vs,k,v,rfl,rfl,g,J,aY n D sh I q⟩
abbrev TOQ:=aG->(Option Int->aG->Prop)->Prop
def UpO (C:Pc) (t:TOQ):TO:=λσ H Q=>∃p F R,RS C p σ F H/\t p R/\∀o H1,(∃n F1,RS C n σ F1 H1/\aM F F1/\kE p n/\R o n)->Q o H1
def BP (t:TQ):TOQ:=λp Q=>t p λe n=>∃i,lk n e=.int i/\Q (some i) n
theorem QO.mk {e:Option Expr} (h:PO X e t) (hi:∀p σ F H R,RS C p σ F H->t' p R->t σ H (λo H1=>∃p1 F1,RS C p1 σ F1 H1/\aM F F1/\kE p p1/\R o p1)):PO X e (UpO C t'):=λpins s σ H Q I n=>by
 obtain ⟨p,F,R,z,D,J⟩:=n
 exact bh (h pins s σ H _ I (hi p σ F H R z D)) λ_ _ n=>by obtain ⟨o,H1,O,B,q1⟩:=n;exact ⟨o,H1,O,B,J o H1 q1⟩
theorem Jt (h:PE X e (Up C ta)):PO X (some e) (UpO C (BP ta)):=QO.mk (Ol h) λp σ F H R I O=>up1 I O λe1 J U F1 H1 n D sh z B=>by obtain ⟨i,h1,q⟩:=B;exact ⟨i,aP z h1,J,F1,n,D,sh,q⟩
def nSl (D:TQ) (z B:TOQ):TN:=λp Q=>D p λe1 I=>z I λlo p2=>B p2 λhi n=>∃ds,Vi (lk n e1)=some ds/\Q (.ro (cut ds lo hi)) n
theorem acd {lo hi:Option Expr} {Z th:TOQ} {U:Pos} (hK:X.K=C.K) (he:PE X e (Up C ta)) (hl:PO X lo (UpO C Z)) (hu:PO X hi (UpO C th)):PE X (.Subscript e (.Slice lo hi none U) pos) (lD C (nSl ta Z th)):=
 QN.mk (HW (Ik hK) he hl hu) λp σ F H R rs ht=>up1 rs ht λe1 p1 v1 F1 H1 O s1 I Y q1=>by
  refine ⟨p1,F1,_,O,q1,λlo H2 D=>?_⟩
  obtain ⟨U,F2,J,s2,z,q2⟩:=D
  refine ⟨U,F2,_,J,q2,λhi H3 D=>?_⟩
  obtain ⟨p3,F3,B,s3,n,ds,h1,q3⟩:=D
  obtain ⟨a1,vs,rfl,g,r⟩:=Y4 B (Y.mono (s2.trans s3) (z.trans n)) h1
  exact ⟨a1,vs,rfl,g,λq hq=>fY B (s1.trans (s2.trans s3)) (I.trans (z.trans n)) hq (r.cut lo hi) q3⟩
def Vj (z:TQ):TN:=λp Q=>z p λe1 n=>∃ds,lk n e1=.lst ds/\Q (.ro ds.reverse) n
theorem Ju {j} (Y:X.K=C.K) (he:PE X e (Up C ta)):PE X (.Subscript e (.Slice none none (some (.UnaryOp .USub (.Constant (.int 1) j J) p2)) p3) pos) (lD C (Vj ta)):=
 QN.mk (Oz Y he) λp σ F H R I O=>up1 I O λe1 J Z F1 H1 n D sh z B=>by
  obtain ⟨ds,h1,q⟩:=B
  obtain ⟨a1,vs,rfl,g,r⟩:=ig n z h1
  exact ⟨a1,vs,rfl,.of g,λq' U=>fY n D sh U r.reverse q⟩
def Vk (z n:TQ):TN:=λp Q=>z p λe1 B=>n B λe2 p2=>∃xs ys,lk p2 e1=.lst xs/\lk p2 e2=.lst ys/\xs.length+ys.length<=100000/\Q (.ro (xs++ys)) p2
theorem RX (ha:PE X a (Up C ta)) (hb:PE X b (Up C tb)):PE X (.BinOp a .Add b pos) (lD C (Vk ta tb)):=
 QN.mk (tu Uw ha hb) λp σ F H R Z ht=>tV Z ht λe1 e2 p1 v1 v2 F1 H1 n Y sh I D U=>by
  obtain ⟨xs,ys,h1,h2,hz,q⟩:=U
  obtain ⟨a1,B,rfl,g1,O⟩:=ig n I h1
  obtain ⟨a2,z,rfl,g2,J⟩:=ig n D h2
  exact ⟨a1,a2,B,z,rfl,rfl,g1,g2,jj (by rw [<-O.length,<-J.length];exact hz),λq' hq=>fY n Y sh hq (O.append J) q⟩
def Vl (z n:TQ):TN:=λp Q=>z p λe1 B=>n B λe2 p2=>∃xs k,lk p2 e1=.lst xs/\lk p2 e2=.int k/\k<2 ^ 62/\-(2 ^ 62)<=k/\xs.length * k.toNat<=100000/\Q (.ro (List.replicate k.toNat xs).flatten) p2
theorem Y5 (ha:PE X a (Up C ta)) (hb:PE X b (Up C tb)):PE X (.BinOp a .Mult b pos) (lD C (Vl ta tb)):=
 QN.mk (tu Ux ha hb) λp σ F H R U Z=>tV U Z λe1 e2 p1 v1 v2 F1 H1 n O sh D B J=>by
  obtain ⟨xs,k,h1,h2,k1,k2,Y,q⟩:=J
  obtain ⟨a1,z,rfl,g1,I⟩:=ig n D h1
  rw [aP B h2]
  exact ⟨a1,k,z,rfl,rfl,g1,by omega,by omega,jj (by rw [<-I.length];exact Y),λq' hq=>fY n O sh hq (I.rep _) q⟩
variable {es:List Expr} {cz:TAQ} {x:Str} {ps:Pos}
def Vm (z:TAQ):TQ:=λp Q=>z p λes n=>∃e ds,es=[e]/\xM (lk n e)=some ds/\Q (.fz (.int ds.length)) n
theorem oA {es:List Ev} {e:Ev} (h:mR C.K p σ F es vs) (z:es=[e]):∃v,vs=[v]/\kI C.K p σ F e v:=by
 subst z
 cases h with
 | cons h t=>cases t;exact ⟨_,rfl,h⟩
theorem BR {es:List Ev} {e f:Ev} {vs:List V} (h:mR C.K p σ F es vs) (z:es=[e,f]):∃v w,vs=[v,w]/\kI C.K p σ F e v/\kI C.K p σ F f w:=by
 subst z
 cases h with
 | cons h t=>
  cases t with
  | cons h' t=>cases t;exact ⟨_,_,rfl,h,h'⟩
theorem dH (hK:X.K=C.K) (Y:Gl X "len") (U:X.mg "len"=none) (Z:PA X [e] (gA C cz)) (he:starEach [e] X.env=(false,eval e X.env)::starEach [] X.env:=by rfl):PE X (.Call (.Name "len" ps) [e] [] pos) (Up C (Vm cz)):=
 QE.mk (fj (tQ hK) Y U PySem.boot_len Z (he:=he)) λp σ F H R J O=>dz J O λes1 p1 D F1 H1 n I sh z B=>by
  obtain ⟨e1,ds,h1,h2,q⟩:=B
  obtain ⟨v,rfl,er⟩:=oA z h1
  obtain ⟨a1,vs,rfl,g,r⟩:=Js n er h2
  exact ⟨a1,vs,rfl,g,aY n I sh (by rw [<-r.length];exact .int _) q⟩
def qI2 (f:Int->Int->Int) (z:TAQ):TQ:=λp Q=>z p λes n=>∃e1 e2 i j,es=[e1,e2]/\lk n e1=.int i/\lk n e2=.int j/\Q (.fz (.int (f i j))) n
theorem Vn (hc:X.calm=true) (Z:Gl X "min") (Y:X.mg "min"=none) (ha:PA X [a,b] (gA C cz)) (he:starEach [a,b] X.env=(false,eval a X.env)::starEach [b] X.env:=by rfl) (hpl:(backTo pos (starEach [b] X.env)).any (·.1)=false:=by rfl) :
  PE X (.Call (.Name "min" ps) [a,b] [] pos) (Up C (qI2 (λi j=>if j<i then j else i) cz)):=
 QE.mk (fj (FP hc) Z Y (by kernel_rfl) ha (he:=he) (hpl:=hpl)) λp σ F H R O U=>dz O U λes1 p1 I F1 H1 n J sh z D=>by
  obtain ⟨e1,e2,i,j,h0,h1,h2,q⟩:=D
  obtain ⟨v,w,rfl,er,B⟩:=BR z h0
  exact ⟨i,j,by rw [aP er h1,aP B h2],aY n J sh (.int _) q⟩
def uN (z:TAQ):TQ:=λp Q=>z p λes n=>∃e1 e2 i j,es=[e1,e2]/\lk n e1=.int i/\lk n e2=.int j/\Ob i j/\Q (.fz (.tup [.int (i / j),.int (i % j)])) n
theorem tW (hg:Gl X "divmod") (hm:X.mg "divmod"=none) (z:PA X [a,b] (gA C cz)) (he:starEach [a,b] X.env=(false,eval a X.env)::starEach [b] X.env:=by rfl) (hpl:(backTo pos (starEach [b] X.env)).any (·.1)=false:=by rfl) :
  PE X (.Call (.Name "divmod" ps) [a,b] [] pos) (Up C (uN cz)):=
 QE.mk (fj wG hg hm (by kernel_rfl) z (he:=he) (hpl:=hpl)) λp σ F H R Y Z=>dz Y Z λes1 p1 O F1 H1 n U sh B I=>by
  obtain ⟨e1,e2,i,j,h0,h1,h2,c,q⟩:=I
  obtain ⟨v,w,rfl,er,D⟩:=BR B h0
  refine ⟨i,j,by rw [aP er h1,aP D h2],c,λa z=>?_⟩
  obtain ⟨J,z2,z3⟩:=n.free z
  exact aY (n.put z) (U.trans (cP J _)) sh (.tup aN (.cons (.int _) (.cons (.int _) .nil))) q
def toI:D->Option Int
 | .int i=>some i
 | .bl b=>some (if b then 1 else 0)
 | _=>none
def Vo (z:TAQ):TQ:=λp Q=>z p λes n=>∃e i,es=[e]/\toI (lk n e)=some i/\Q (.fz (.int i)) n
theorem BV (hg:Gl X "int") (Z:X.mg "int"=none) (ha:PA X [e] (gA C cz)) (he:starEach [e] X.env=(false,eval e X.env)::starEach [] X.env:=by rfl):PE X (.Call (.Name "int" ps) [e] [] pos) (Up C (Vo cz)):=
 QE.mk (nR FQ hg Z (by kernel_rfl) ha (he:=he)) λp σ F H R O Y=>dz O Y λes1 U J F1 H1 n B sh z I=>by
  obtain ⟨e1,i,h1,h2,q⟩:=I
  obtain ⟨v,rfl,D⟩:=oA z h1
  cases e2:lk U e1 with
  | int j=>rw [e2] at h2;cases (h2);exact .inl ⟨i,by rw [aP D e2],aY n B sh (.int _) q⟩
  | bl k=>rw [e2] at h2;cases h2;exact .inr ⟨k,by rw [o_ D e2],aY n B sh (.int _) q⟩
  | _=>rw [e2] at h2;cases h2
def Gp (T:String):D->Option Bool
 | .int _=>some (T == "int")
 | .bl _=>some (T == "bool" || T == "int")
 | .lst _=>some (T == "list")
 | .tup _=>some (T == "tuple")
 | .str _=>some (T == "str")
 | .non=>some false
 | .sO _ _=>some false
 | _=>none
def tyName (T:String):Prop:=T="int"\/T="bool"\/T="list"\/T="tuple"\/T="str"
def tyD:D->Option Value
 | .non=>some (.type "NoneType")
 | .bl _=>some (.type "bool")
 | .int _=>some (.type "int")
 | .str _=>some (.type "str")
 | .lst _=>some (.type "list")
 | .tup _=>some (.type "tuple")
 | .sO _ _=>some (.type "dict")
 | .exc C=>some (.ref C)
 | _=>none
def xfD (K:PySem.W.Frag):D->Prop
 | .exc C=>XF K C
 | _=>True
theorem Vp {z:Ev} {v:V} {t:Value} (rs:RS C p σ F H) (n:kI C.K p σ F z v) (h:tyD (lk p z)=some t) (B:xfD C.K (lk p z)):YS C.K H v t:=by
 cases e:lk p z with
 | int i=>rw [e] at h;cases h;rw [aP n e];exact .inl (.int _)
 | bl i=>rw [e] at h;cases h;rw [o_ n e];exact .inl (.bl _)
 | lst xs=>rw [e] at h;cases h;obtain ⟨a1,vs,rfl,g,r⟩:=ig rs n e;exact .inl (.lst g)
 | tup xs=>rw [e] at h;cases h;obtain ⟨a1,vs,rfl,g,r⟩:=Je rs n e;exact .inl (.tup g)
 | str x=>rw [e] at h;cases h;rw [cu n e];exact .inl (.str _)
 | non=>rw [e] at h;cases h;rw [U9 n e];exact .inl .non
 | sO ks ds=>rw [e] at h;cases h;obtain ⟨a1,vs,rfl,g,l,r⟩:=Jg rs n e;exact .inl (.dK g)
 | exc Cl=>rw [e] at h B;cases h;obtain ⟨a1,rfl,g⟩:=U_ rs n e;exact .inr ⟨a1,Cl,rfl,g,rfl,B⟩
 | _=>rw [e] at h;cases h
theorem Ph {k:Bool} (hT:tyName T) (rs:RS C p σ F H) (z:kI C.K p σ F e1 v) (h:Gp T (lk p e1)=some k):∃t,YS C.K H v t/\PySem.W.kitOne C.K t (.type T)=some k:=by
 obtain ⟨t,h1,n,h2⟩:∃t,tyD (lk p e1)=some t/\xfD C.K (lk p e1)/\PySem.W.kitOne C.K t (.type T)=some k:=by
  generalize lk p e1=d at h ⊢
  cases d<;>cases h<;>rcases hT with rfl|rfl|rfl|rfl|rfl<;>exact ⟨_,rfl,trivial,rfl⟩
 exact ⟨t,Vp rs z h1 n,h2⟩
def Vq (T:String) (z:TAQ):TQ:=λp Q=>z p λes n=>∃e f k,es=[e,f]/\lk n f=.atom (.ty T)/\Gp T (lk n e)=some k/\Q (.fz (.bl k)) n
theorem BW (hK:X.K=C.K) (hT:tyName T) (Z:Gl X "isinstance") (Y:X.mg "isinstance"=none) (ha:PA X [a,b] (gA C cz)) (he:starEach [a,b] X.env=(false,eval a X.env)::starEach [b] X.env:=by rfl) (hpl:(backTo pos (starEach [b] X.env)).any (·.1)=false:=by rfl) :
  PE X (.Call (.Name "isinstance" ps) [a,b] [] pos) (Up C (Vq T cz)):=
 QE.mk (fj (Jb hK) Z Y (by kernel_rfl) ha (he:=he) (hpl:=hpl)) λp σ F H R O U=>dz O U λes1 p1 I F1 H1 n J sh z D=>by
  obtain ⟨e1,e2,k,h0,h1,h2,q⟩:=D
  obtain ⟨v,w,rfl,er,B⟩:=BR z h0
  obtain ⟨t,ty,ek⟩:=Ph hT n er h2
  exact ⟨v,w,.type T,t,k,rfl,by rw [cZ B h1];exact λu h=>h,ty,ek,aY n J sh (.bl _) q⟩
theorem jK {i:Nat} {xs:List D} (rs:RS C p σ F H) (h:d_ p i=some xs):∃s a vs,p[i]? = some (some s)/\s.mu=true/\σ[i]? = some (some (.ref a))/\H a=some (.lst vs)/\aK C.K F xs vs/\∀ys,putL p i ys=p.set i (some (s.put ys)):=by
 unfold d_ at h
 split at h
 ·rename_i ys e
  cases h
  obtain ⟨v,e1,a,vs,rfl,I,B,z,n⟩:=rs.sl i _ e
  exact ⟨_,a,vs,e,rfl,e1,z,n,λys=>by unfold putL;rw [e]⟩
 ·rename_i ys e
  cases h
  obtain ⟨v,e1,a,vs,rfl,I,B,z,n⟩:=rs.sl i _ e
  exact ⟨_,a,vs,e,rfl,e1,z,n,λys=>by unfold putL;rw [e]⟩
 ·cases h
theorem RS.Vr {a:Addr} (rs:RS C p σ F H) (h:d_ p i=some xs) (n:σ[i]? = some (some (.ref a))) (r:aK C.K F ys us):RS C (putL p i ys) σ F (upd H a (.lst us))/\kE p (putL p i ys):=by
 obtain ⟨s,J,vs,h1,h2,z,I,D,B⟩:=jK rs h
 rw [n] at z;cases z
 rw [B]
 exact rs.write h1 h2 n r
theorem D_ {i:Nat} {xs:List D} {Q:V->Hp->Prop} (rs:RS C p σ F H) (h:d_ p i=some xs) (k:∀a,σ[i]? = some (some (.ref a))->XJ C.K "list" (.ref a) H/\Q (.ref a) H):v_ i σ H λx H1=>XJ C.K "list" x H1/\Q x H1:=by
 obtain ⟨s,a,vs,h1,h2,n,I,B,z⟩:=jK rs h
 exact ⟨.ref a,n,k a n⟩
theorem Jv {a:Addr} (rs:RS C p σ F H) (h:d_ p i=some xs) (z:σ[i]? = some (some (.ref a))):XJ C.K "list" (.ref a) H:=by
 obtain ⟨s,J,vs,h1,h2,n,B,I,D⟩:=jK rs h
 rw [z] at n;cases n
 exact .inl ⟨rfl,vs,.of B⟩
def Vs (i:Nat) (n:TAQ):TQ:=λp Q=>(d_ p i).isSome=true/\n p λes p2=>∃x xs,es=[.fz x]/\d_ p2 i=some xs/\xs.length<100000/\Q (.fz .non) (putL p2 i (xs++[x]))
theorem jL {n:Pos} (hK:X.K=C.K) (ho:PE X o (v_ i)) (ha:PA X [e] (gA C cz))
  (B:attributeBase o "append" X.env (eval o X.env)=eval o X.env:=by rfl)
  (I:((backTo pos (starEach [e] X.env)).all (λx=>!x.1) && (backToKw pos (keywordEach [] X.env)).all (λx=>x.1.isSome)
   && decide ([e].length+([]:List Keyword).length+(if ([]:List Keyword).isEmpty then 0 else 1)<30))=true:=by rfl)
  (z:(n.endLine == pos.line)=true:=by rfl) (hs:starEach [e] X.env=(false,eval e X.env)::starEach [] X.env:=by rfl):PE X (.Call (.Attribute o "append" n) [e] [] pos) (Up C (Vs i cz)):=by
 refine QE.mk (H_ PySem.F.plainAttrs_list PySem.F.slot_list_append PySem.F.type_list_append Gd ho ha B I z hs rfl) λp σ F H R Y Z=>?_
 obtain ⟨h0,Z⟩:=Z
 obtain ⟨xs0,h0⟩:=yS.mp h0
 rw [hK]
 refine D_ Y h0 λa1 hσ=>⟨Jv Y h0 hσ,dz Y Z λes2 p2 vs2 F2 H2 D s2 O xN zq=>?_⟩
 obtain ⟨x,xs,h2,h3,h4,q⟩:=zq
 obtain ⟨v,rfl,er⟩:=oA xN h2
 obtain ⟨s,a',vs,g1,g2,g3,g4,g5,g6⟩:=jK D h3
 rw [hσ] at g3;cases g3
 obtain ⟨U,J⟩:=D.Vr h3 hσ (g5.append (.cons er .nil))
 exact ⟨a1,vs,v,rfl,rfl,g4,by rw [<-g5.length];exact zK h4 (by decide),aY U s2 (O.trans J) .non q⟩
def Jw (i:Nat):TQ:=λp Q=>∃xs,d_ p i=some xs/\Q (.fz .non) (putL p i xs.reverse)
theorem Gq {n:Pos} (hK:X.K=C.K) (Z:PE X o (v_ i)) (B:attributeBase o "reverse" X.env (eval o X.env)=eval o X.env:=by rfl) (z:(n.endLine == pos.line)=true:=by rfl):PE X (.Call (.Attribute o "reverse" n) [] [] pos) (Up C (Jw i)):=by
 refine QE.mk (Uv PySem.F.plainAttrs_list PySem.F.slot_list_reverse PySem.F.type_list_reverse Bu Z B z) λp σ F H R D Y=>?_
 obtain ⟨xs,I,q⟩:=Y
 rw [hK]
 refine D_ D I λa1 hσ=>⟨Jv D I hσ,?_⟩
 obtain ⟨s,a',vs,g1,g2,U,g4,g5,g6⟩:=jK D I
 rw [hσ] at U;cases U
 obtain ⟨O,J⟩:=D.Vr I hσ g5.reverse
 exact ⟨a1,vs,rfl,rfl,g4,aY O (.refl _) J .non q⟩
end
structure gY where
 nx:aG->Prop
 rt:Rt->aG->Prop
 bk:aG->Prop:=λ_=>False
 ct:aG->Prop:=λ_=>False
abbrev iu:=gY->aG->Prop
def gY.dn (C:Pc) (F0:Hp) (E:gY):Ends where
 nx:=λσ H=>∃p F,RS C p σ F H/\aM F0 F/\E.nx p
 rt:=λv H=>∃r p σ F,RS C p σ F H/\aM F0 F/\Jd C p σ F H r v/\E.rt r p
 bk:=λσ H=>∃p F,RS C p σ F H/\aM F0 F/\E.bk p
 ct:=λσ H=>∃p F,RS C p σ F H/\aM F0 F/\E.ct p
structure Ends.Le (A B:Ends):Prop where
 nx:∀σ H,A.nx σ H->B.nx σ H
 rt:∀v H,A.rt v H->B.rt v H
 bk:∀σ H,A.bk σ H->B.bk σ H
 ct:∀σ H,A.ct σ H->B.ct σ H
theorem Ends.Le.refl (A:Ends):Ends.Le A A:=⟨λ_ _ h=>h,λ_ _ h=>h,λ_ _ h=>h,λ_ _ h=>h⟩
theorem Ends.Le.trans {A B C:Ends} (a:Ends.Le A B) (b:Ends.Le B C):Ends.Le A C:=⟨λ_ _ h=>b.nx _ _ (a.nx _ _ h),λ_ _ h=>b.rt _ _ (a.rt _ _ h),λ_ _ h=>b.bk _ _ (a.bk _ _ h),λ_ _ h=>b.ct _ _ (a.ct _ _ h)⟩
theorem Jx {E:gY} (s:aM F F1):(E.dn C F1).Le (E.dn C F):=⟨λ_ _ n=>by obtain ⟨p,G,a,b,c⟩:=n;exact ⟨p,G,a,s.trans b,c⟩,λ_ _ n=>by obtain ⟨r,p,σ,G,a,b,c⟩:=n;exact ⟨r,p,σ,G,a,s.trans b,c⟩,λ_ _ n=>by obtain ⟨p,G,a,b,c⟩:=n;exact ⟨p,G,a,s.trans b,c⟩,λ_ _ n=>by obtain ⟨p,G,a,b,c⟩:=n;exact ⟨p,G,a,s.trans b,c⟩⟩
def iw (C:Pc) (t:iu):TS:=λn σ H=>∃p F E,RS C p σ F H/\t E p/\(E.dn C F).Le n
def pA (p:aG) (i:Nat):Bool:=match p[i]? with
 | some (some (.bor _))=>false
 | _=>true
section
variable {X:Cx} {C:Pc} {a b c e:Expr} {ta tb tc:TQ} {pos:Pos} {K:PySem.W.Frag} {p:aG} {σ:St} {F H:Hp} {st:Stmt} {rest:List Stmt} {t u:iu}
theorem SP.le (l:Ends.Le A B) (h:SP X pins A f s'):SP X pins B f s':=by
 cases f with
 | next=>obtain ⟨σ',H',I,q⟩:=h;exact ⟨σ',H',I,l.nx _ _ q⟩
 | brk=>obtain ⟨σ',H',I,q⟩:=h;exact ⟨σ',H',I,l.bk _ _ q⟩
 | cont=>obtain ⟨σ',H',I,q⟩:=h;exact ⟨σ',H',I,l.ct _ _ q⟩
 | ret u=>obtain ⟨v,σ',H',I,r,q⟩:=h;exact ⟨v,σ',H',I,r,l.rt _ _ q⟩
theorem QS.mk {t:TS} (h:PS X st t) (hi:∀p σ F H E,RS C p σ F H->t' E p->t (E.dn C F) σ H):PS X st (iw C t'):=λpins s σ H D I n=>by
 obtain ⟨p,F,E,z,B,l⟩:=n
 exact bh (h pins s σ H _ I (hi p σ F H E z B)) λ_ _ q=>q.le l
theorem QSs.mk {t:TS} (h:fX X sts t) (hi:∀p σ F H E,RS C p σ F H->t' E p->t (E.dn C F) σ H):fX X sts (iw C t'):=λpins s σ H D I n=>by
 obtain ⟨p,F,E,z,B,l⟩:=n
 exact bh (h pins s σ H _ I (hi p σ F H E z B)) λ_ _ q=>q.le l
def Jy:iu:=λE p=>E.nx p
def xO (t u:iu):iu:=λE p=>t { E with nx:=u E } p
theorem aR:fX X [] (iw C Jy):=QSs.mk uw λp σ F H E n q=>⟨p,F,n,.refl _,q⟩
theorem bf (U:PS X st (iw C t)) (O:fX X rest (iw C u)):fX X (st::rest) (iw C (xO t u)):=
 QSs.mk (wk U O) λp σ F H E I q=>⟨p,F,_,I,q,⟨λz H1 B=>by obtain ⟨J,F1,n,D,q1⟩:=B;exact ⟨J,F1,E,n,q1,Jx D⟩,λ_ _ h=>h,λ_ _ h=>h,λ_ _ h=>h⟩⟩
theorem aQ (n:PS X st (iw C t)):fX X [st] (iw C t):=Dr n
def Jz (t:TQ):iu:=λE p=>t p λ_ n=>E.nx n
theorem qO (he:PE X e (Up C ta)) (J:swapsWith e none pos.line X.env=pure false:=by rfl):PS X (.Expr e pos) (iw C (Jz ta)):=
 QS.mk (Ds he J) λp σ F H E B I=>up1 B I λe1 D U F1 H1 n z sh O q=>⟨D,F1,n,z,q⟩
def Pj (t:TN):iu:=λE p=>t p E.rt
theorem cH {t:TN} (he:PE X e (lD C t)):PS X (.Return (some e) pos) (iw C (Pj t)):=
 QS.mk (Hu he) λp σ F H E B J=>O5 B J λr I O F1 H1 n z sh D q=>⟨r,I,σ,F1,n,z,D,q⟩
def Vt (c:mQ) (t u:iu):iu:=λE p=>c p λb n=>if b=true then t E n else u E n
theorem bD {c:Expr} {a b:List Stmt} {z:mQ} (O:PT X c (gj C z)) (Y:fX X a (iw C t)) (U:fX X b (iw C u)):PS X (.If c a b pos) (iw C (Vt z t u)):=
 QS.mk (Hv O Y U) λp σ F H E I J=>pG I J λk D F1 H1 n B sh q=>dB (λq=>⟨D,F1,E,n,q,Jx B⟩) (λq=>⟨D,F1,E,n,q,Jx B⟩) q
def Vu:iu:=λ_ _=>False
theorem qP:PS X st (iw C Vu):=λ_ _ _ _ _ _ ⟨_,_,_,_,h,_⟩=>h.elim
theorem RS.clear (rs:RS C p σ F H) (h:pA p i=true):RS C (p.set i none) σ F H:=by
 refine ⟨rs.sub,rs.ext,rs.new,rs.keep,rs.grow,by rw [ye];exact rs.len,λj s e=>?_,λj k s s' x z e1 U e2 O J I=>?_,λq Y=>?_⟩
 ·by_cases n:i=j
  ·subst n
   rw [List.getElem?_set] at e
   simp at e
  ·rw [zz n] at e;exact rs.sl j s e
 ·have back:∀(j:Nat) (s:Sl),(p.set i none)[j]? = some (some s)->p[j]? = some (some s):=λj s e=>by
   by_cases n:i=j
   ·subst n;rw [List.getElem?_set] at e;simp at e
   ·rw [zz n] at e;exact e
  exact rs.apart j k s s' x z (back _ _ e1) U (back _ _ e2) O J I
 ·obtain ⟨D,xs,B⟩:=rs.pin q Y
  refine ⟨D,xs,?_⟩
  by_cases n:i=q.1
  ·rw [n] at h
   unfold pA at h
   rw [B] at h;cases h
  ·rw [zz n];exact B
theorem RS.uO (rs:RS C p σ F H) (h:pA p i=true) (r:Rep C.K F x v):RS C (p.set i (some (.d x))) (σ.set i (some v)) F H:=by
 have ne:∀q∈C.bs,i≠q.1:=λq B z=>by
  obtain ⟨J,xs,D⟩:=rs.pin q B
  rw [z] at h
  unfold pA at h
  rw [D] at h;cases h
 refine ⟨rs.sub,rs.ext,rs.new,rs.keep,rs.grow,by rw [ye,ye];exact rs.len,λj s e=>?_,λj k s s' y I e1 Z e2 Y U O=>?_,λq B=>?_⟩
 ·by_cases n:i=j
  ·subst n
   have hi:i<p.length:=by
    have:=(zx.mp e).1
    rwa [ye] at this
   rw [zM hi] at e
   cases e
   exact ⟨v,zM (by rw [<-rs.len];exact hi),r⟩
  ·rw [zz n] at e
   rw [zz n]
   exact rs.sl j s e
 ·have back:∀(j:Nat) (s:Sl),(p.set i (some (.d x)))[j]? = some (some s)->s.mu=true->i≠j/\p[j]? = some (some s):=λj s e m=>by
   by_cases n:i=j
   ·subst n
    have hi:i<p.length:=by
     have:=(zx.mp e).1
     rwa [ye] at this
    rw [zM hi] at e
    cases e;cases m
   ·rw [zz n] at e;exact ⟨n,e⟩
  obtain ⟨n1,f1⟩:=back j s e1 Z
  obtain ⟨n2,f2⟩:=back k s' e2 Y
  rw [zz n1] at U
  rw [zz n2] at O
  exact rs.apart j k s s' y I f1 Z f2 Y U O
 ·obtain ⟨J,xs,D⟩:=rs.pin q B
  exact ⟨by rw [zz (ne q B)];exact J,xs,by rw [zz (ne q B)];exact D⟩
theorem RS.ach (rs:RS C p σ F H) (h:pA p i=true) (h1:F x=none) (h2:C.H0 x=none) (h3:H x=some (.lst vs)) (h4:aK C.K F xs vs) (h5:BK p σ x) :
  RS C (p.set i (some (.own xs))) (σ.set i (some (.ref x))) F H:=by
 have ne:∀q∈C.bs,i≠q.1:=λq I z=>by
  obtain ⟨Z,xs,O⟩:=rs.pin q I
  rw [z] at h
  unfold pA at h
  rw [O] at h;cases h
 have back:∀(j:Nat) (s:Sl),(p.set i (some (.own xs)))[j]? = some (some s)->(i=j/\i<p.length/\s=.own xs)\/(i≠j/\p[j]? = some (some s)):=λj s e=>by
  by_cases n:i=j
  ·subst n
   have hi:i<p.length:=by
    have:=(zx.mp e).1
    rwa [ye] at this
   rw [zM hi] at e
   cases e
   exact .inl ⟨rfl,hi,rfl⟩
  ·rw [zz n] at e;exact .inr ⟨n,e⟩
 refine ⟨rs.sub,rs.ext,rs.new,rs.keep,rs.grow,by rw [ye,ye];exact rs.len,λj s e=>?_,λj k s s' y J e1 m1 e2 m2 D B=>?_,λq I=>?_⟩
 ·rcases back j s e with ⟨rfl,hi,rfl⟩|⟨n,e⟩
  ·exact ⟨.ref x,zM (by rw [<-rs.len];exact hi),x,vs,rfl,h1,h2,h3,h4⟩
  ·rw [zz n]
   exact rs.sl j s e
 ·rcases back j s e1 with ⟨rfl,hi,rfl⟩|⟨n,f1⟩
  ·rcases back k s' e2 with ⟨rfl,_,rfl⟩|⟨U,Y⟩
   ·exact J rfl
   ·rw [zM (by rw [<-rs.len];exact hi)] at D
    cases D
    rw [zz U] at B
    exact h5 k s' Y m2 B
  ·rcases back k s' e2 with ⟨rfl,hi,rfl⟩|⟨U,Y⟩
   ·rw [zM (by rw [<-rs.len];exact hi)] at B
    cases B
    rw [zz n] at D
    exact h5 j s f1 m1 D
   ·rw [zz n] at D
    rw [zz U] at B
    exact rs.apart j k s s' y J f1 m1 Y m2 D B
 ·obtain ⟨Z,ys,O⟩:=rs.pin q I
  exact ⟨by rw [zz (ne q I)];exact Z,ys,by rw [zz (ne q I)];exact O⟩
def JB (i:Nat):iu:=λE p=>∃xs,p[i]? = some (some (.own xs))/\E.rt (.ro xs) (p.set i none)
theorem oE (he:PE X e (v_ i)):PS X (.Return (some e) pos) (iw C (JB i)):=QS.mk (Hu he) λp σ F H E n D=>by
 obtain ⟨xs,h,q⟩:=D
 obtain ⟨v,e1,x,vs,rfl,U,O,J,I⟩:=n.sl i _ h
 have Z:pA p i=true:=by unfold pA;rw [h]
 have Y:BK (p.set i none) σ x:=λj s e m z=>by
  by_cases B:i=j
  ·subst B;rw [List.getElem?_set] at e;simp at e
  ·rw [zz B] at e
   exact n.apart j i s _ x (Ne.symm B) e m h rfl z e1
 exact ⟨.ref x,e1,.ro xs,_,σ,F,n.clear Z,.refl _,⟨x,vs,rfl,U,O,J,I,Y⟩,q⟩
def Pk (i:Nat) (t:TQ):iu:=λE p=>t p λe n=>∃x,e=.fz x/\pA n i=true/\E.nx (n.set i (some (.d x)))
theorem aL {i:Nat} {x:Str} {n:Pos} (hN:X.N.Nodup) (hi:X.N[i]? = some x) (U:Loc X.env.scope x) (he:PE X e (Up C ta)) (Z:swapsWith e (some (.Name x n)) pos.line X.env=pure false:=by rfl) (hf:X.fn x=true\/X.env.scope.names.lookup x=some .local:=by first|exact .inl rfl|exact .inr rfl|assumption) :
  PS X (.Assign [.Name x n] e pos) (iw C (Pk i ta)):=
 QS.mk (Bg hN hi U he Z hf) λp σ F H E J Y=>up1 J Y λe1 p1 v1 F1 H1 z I sh B D=>by obtain ⟨y,O,hn,q⟩:=D;exact ⟨_,F1,z.uO hn (by subst O;exact B),I,q⟩
def JC (i:Nat) (t:TN):iu:=λE p=>t p λr n=>pA n i=true/\E.nx (n.set i (some r.sl))
theorem lE {t:TN} (hN:X.N.Nodup) (hi:X.N[i]? = some x) (hx:Loc X.env.scope x) (he:PE X e (lD C t)) (hs:swapsWith e (some (.Name x pos')) pos.line X.env=pure false:=by rfl) (hf:X.fn x=true\/X.env.scope.names.lookup x=some .local:=by first|exact .inl rfl|exact .inr rfl|assumption) :
  PS X (.Assign [.Name x pos'] e pos) (iw C (JC i t)):=
 QS.mk (Bg hN hi hx he hs hf) λp σ F H E rs ht=>O5 rs ht λr p1 v1 F1 H1 n z sh B I=>by
  obtain ⟨D,q⟩:=I
  cases r with
  | rd y=>exact ⟨_,F1,n.uO D B,z,q⟩
  | ro xs=>
   obtain ⟨x,vs,rfl,Z,Y,U,O,J⟩:=B
   exact ⟨_,F1,n.ach D Z Y U O J,z,q⟩
def Gr (i:Nat) (g:Int->Int->Int) (Cn:Int->Int->Prop) (t:TQ):iu:=λE p=>∃n,p[i]? = some (some (.d (.int n)))/\t p λe z=>∃j,lk z e=.int j/\Cn n j/\pA z i=true/\E.nx (z.set i (some (.d (.int (g n j)))))
theorem JD (ho:g8 X (inplaceOp op) r) (Z:∀i j H Q,Cn i j->Q (.int (g i j)) H->r (.int i) (.int j) H Q) (hN:X.N.Nodup) (hi:X.N[i]? = some x) (U:Loc X.env.scope x) (he:PE X e (Up C ta)) (hf:X.fn x=true\/X.env.scope.names.lookup x=some .local:=by first|exact .inl rfl|exact .inr rfl|assumption) :
  PS X (.AugAssign (.Name x pos') op e pos) (iw C (Gr i g Cn ta)):=
 QS.mk (T4 hN hi U he ho hf) λp σ F H E I z=>by
  obtain ⟨n,h0,Y⟩:=z
  obtain ⟨v,e1,O⟩:=I.sl i _ h0
  cases O
  exact ⟨.int n,e1,up1 I Y λe1 p1 v1 F1 H1 B J sh D z=>by
   obtain ⟨j,hj,hc,hn,q⟩:=z
   rw [aP D hj]
   exact Z n j H1 _ hc ⟨_,F1,B.uO hn (.int _),J,q⟩⟩
def tr2 (i j:Int):Prop:=True
theorem Y6 {i:Nat} {x:Str} {n:Pos} (hN:X.N.Nodup) (hi:X.N[i]? = some x) (z:Loc X.env.scope x) (he:PE X e (Up C ta)) (hf:X.fn x=true\/X.env.scope.names.lookup x=some .local:=by first|exact .inl rfl|exact .inr rfl|assumption) :
  PS X (.AugAssign (.Name x n) .Add e pos) (iw C (Gr i (λa b=>a+b) tr2 ta)):=JD Oc (λi j H Q _ q=>⟨i,j,rfl,rfl,q⟩) hN hi z he hf
theorem Vv {i:Nat} {x:Str} {n:Pos} (hN:X.N.Nodup) (hi:X.N[i]? = some x) (z:Loc X.env.scope x) (he:PE X e (Up C ta)) (hf:X.fn x=true\/X.env.scope.names.lookup x=some .local:=by first|exact .inl rfl|exact .inr rfl|assumption) :
  PS X (.AugAssign (.Name x n) .Sub e pos) (iw C (Gr i (λa b=>a - b) tr2 ta)):=JD Od (λi j H Q _ q=>⟨i,j,rfl,rfl,q⟩) hN hi z he hf
theorem acj {i:Nat} {x:Str} {n:Pos} (hN:X.N.Nodup) (hi:X.N[i]? = some x) (z:Loc X.env.scope x) (he:PE X e (Up C ta)) (hf:X.fn x=true\/X.env.scope.names.lookup x=some .local:=by first|exact .inl rfl|exact .inr rfl|assumption) :
  PS X (.AugAssign (.Name x n) .Mult e pos) (iw C (Gr i (λa b=>a * b) Bh ta)):=JD Oe (λi j H Q c q=>⟨i,j,rfl,rfl,c,q⟩) hN hi z he hf
def JF (i:Nat) (B z:TQ):iu:=λE p=>B p λev n=>(d_ n i).isSome=true/\z n λD p2=>∃x xs k j,ev=.fz x/\d_ p2 i=some xs/\lk p2 D=.int k/\wL xs.length k=some j/\E.nx (putL p2 i (xs.set j x))
theorem JG {k: Expr} {pt : Pos} (he : PE X e (Up C te)) (ho : PE X o (v_ i)) (O : PE X k (Up C tk))
    (ha : ∀ v, assign (.Subscript o k pt) X.env v = (do
      let ov ← holding [v] (eval o X.env)
      let iv ← holding [v, ov] (eval k X.env)
      standAt pt
      holding [v, ov, iv] (setItem ov iv v)
      release [v, ov, iv] []) := by intro _; rfl)
    (hs : swapsWithSole [.Subscript o k pt] e pos.line X.env = pure false := by rfl) (hw : swappedStores [.Subscript o k pt] e X.env = pure none := by rfl)
    (h1 : (assignEach [.Subscript o k pt] X.env).map (·.2) = [assign (.Subscript o k pt) X.env] := by rfl) :
    PS X (.Assign [.Subscript o k pt] e pos) (iw C (JF i te tk)) :=
  QS.mk (Bf he (Hx ho O set_list ha) hs hw h1) λp σ F H E rs J => up1 rs J λe1 p1 v1 F1 H1 z s1 sh Z B=>by
    obtain ⟨h0, J⟩:=B
    obtain ⟨xs0, h0⟩ := yS.mp h0
    obtain ⟨s, x, vs, g1, g2, U, g4, g5, g6⟩ := jK z h0
    refine ⟨.ref x, U, up1 z J λe2 p2 v2 F2 H2 n s2 Nv Y B=>?_⟩
    obtain ⟨y, xs, k, j, hy, hm, O, hj, q⟩:=B
    obtain ⟨s', x', D, k1, k2, k3, k4, k5, k6⟩ := jK n hm
    rw [U] at k3; cases k3
    subst hy
    obtain ⟨I, sh3⟩ := n.Vr hm U (aK.set (Rep.mono s2 Z) j k5)
    exact ⟨x, D, k, j, rfl, aP Y O, k4, by rw [← k5.length]; exact hj, _, F2, I, s1.trans s2, q⟩
end
abbrev pQ:=D->aG->(aG->Prop)->Prop
abbrev sV:=List D->aG->(aG->Prop)->Prop
def XG (C:Pc) (F:Hp) (R:aG->Prop) (n:St) (B:Hp):Prop:=∃z F1,RS C z n F1 B/\aM F F1/\R z
def Gs (C:Pc) (g:pQ):TG:=λv σ H Q=>∃p F x R,RS C p σ F H/\Rep C.K F x v/\g x p R/\∀n H1,XG C F R n H1->Q n H1
def Gu (C:Pc) (g:sV):N5:=λvs σ H Q=>∃p F xs R,RS C p σ F H/\aK C.K F xs vs/\g xs p R/\∀n H1,XG C F R n H1->Q n H1
section
variable {X:Cx} {C:Pc} {a b c e:Expr} {ta tb tc:TQ} {pos:Pos} {K:PySem.W.Frag} {p:aG} {σ:St} {F H:Hp} {st:Stmt} {rest:List Stmt} {t u:iu}
theorem QG.mk (h:PG X tg g) (hi:∀p σ F H x v R,RS C p σ F H->Rep C.K F x v->g' x p R->g v σ H (XG C F R)):PG X tg (Gs C g'):=λpins s σ H v u Q I r z=>by
 obtain ⟨p,F,x,R,D,B,O,J⟩:=z
 exact bh (h pins s σ H v u _ I r (hi p σ F H x v R D B O)) λ_ _ z=>by obtain ⟨n,H1,U,q1⟩:=z;exact ⟨n,H1,U,J n H1 q1⟩
theorem QGs.mk (h:ux X tgs g) (hi:∀p σ F H xs vs R,RS C p σ F H->aK C.K F xs vs->g' xs p R->g vs σ H (XG C F R)):ux X tgs (Gu C g'):=λpins s σ H v u Q I r z=>by
 obtain ⟨p,F,x,R,D,B,O,J⟩:=z
 exact bh (h pins s σ H v u _ I r (hi p σ F H x v R D B O)) λ_ _ z=>by obtain ⟨n,H1,U,q1⟩:=z;exact ⟨n,H1,U,J n H1 q1⟩
def BX (i:Nat):pQ:=λx p Q=>pA p i=true/\Q (p.set i (some (.d x)))
theorem aO {i:Nat} {x:Str} (hN:X.N.Nodup) (hi:X.N[i]? = some x) (D:Loc X.env.scope x) (hf:X.fn x=true\/X.env.scope.names.lookup x=some .local:=by first|exact .inl rfl|exact .inr rfl|assumption):PG X (.Name x pos) (Gs C (BX i)):=
 QG.mk (Dt hN hi D hf) λp σ F H x v R B z n=>by obtain ⟨I,q⟩:=n;exact ⟨_,F,B.uO I z,.refl _,q⟩
def xP:sV:=λxs p Q=>xs=[]/\Q p
def oF (g:pQ) (z:sV):sV:=λxs p Q=>∃x r,xs=x::r/\g x p λn=>z r n Q
theorem iy:ux X [] (Gu C xP):=QGs.mk uy λp σ F H xs vs R B z n=>by
 obtain ⟨h,q⟩:=n
 subst h;cases z
 exact ⟨rfl,p,F,B,.refl _,q⟩
theorem bx {e:Expr} (h1:PG X e (Gs C g)) (h2:ux X es (Gu C gs))
  (hs:(assignEach (e::es) X.env).map (·.2)=assign e X.env::(assignEach es X.env).map (·.2):=by rfl):ux X (e::es) (Gu C (oF g gs)):=
 QGs.mk (wA h1 h2 hs) λp σ F H xs vs R Y U n=>by
  obtain ⟨x,r,hx,q⟩:=n
  subst hx
  cases U with
  | cons r1 r2=>
   refine ⟨_,_,rfl,p,F,x,_,Y,r1,q,λJ H1 n=>?_⟩
   obtain ⟨Z,F1,B,D,q1⟩:=n
   exact ⟨Z,F1,r,R,B,r2.mono D,q1,λI H2 n=>by obtain ⟨p2,F2,z,O,q2⟩:=n;exact ⟨p2,F2,z,D.trans O,q2⟩⟩
def xQ (n:Nat) (z:sV):pQ:=λx p Q=>∃xs,x=.tup xs/\xs.length=n/\z xs p Q
theorem qQ {k:Nat} {D:sV} (hK:X.K=C.K) (Z:X.calm=true) (h:ux X es (Gu C D)) (U:(assignEach es X.env).length=n:=by rfl) (z:(assignEach es X.env).findIdx? (·.1)=none:=by rfl):PG X (.Tuple es k pos) (Gs C (xQ n D)):=
 QG.mk (DK hK Z h U z) λp σ F H x v R B J I=>by
  obtain ⟨xs,O,Y,q⟩:=I
  subst O
  cases J with
  | tup q1 r1=>exact ⟨_,_,rfl,.of (B.sub _ _ q1),by rw [<-r1.length];exact Y,p,F,xs,R,B,r1,q,λ_ _ h=>h⟩
def Vw (t:TQ) (g:pQ):iu:=λE p=>t p λe n=>∃x,e=.fz x/\g x n E.nx
theorem jM {e:Expr} (he:PE X e (Up C ta)) (hg:PG X tg (Gs C g)) (hs:swapsWithSole [tg] e pos.line X.env=pure false:=by rfl) (hw:swappedStores [tg] e X.env=pure none:=by rfl)
  (h1:(assignEach [tg] X.env).map (·.2)=[assign tg X.env]:=by rfl):PS X (.Assign [tg] e pos) (iw C (Vw ta g)):=
 QS.mk (Bf he hg hs hw h1) λp σ F H E U ht=>up1 U ht λe1 Y v1 F1 H1 B O sh D n=>by
  obtain ⟨x,Z,q⟩:=n
  subst Z
  exact ⟨Y,F1,x,_,B,D,q,λI H2 n=>by obtain ⟨p2,F2,z,J,q2⟩:=n;exact ⟨p2,F2,z,O.trans J,q2⟩⟩
structure JQ (K:PySem.W.Frag) (J:It) (n:Nat) (item:Nat->D) (F1:Hp):Prop where
 go:∀i F H,aM F H->aM F1 F->i<n->J.go i H
 RC:∀i F H x H',aM F H->aM F1 F->i<n->J.RC i H x H'->(H'=H/\Rep K F (item i) x)\/∃t xs vs,H t=none/\H'=upd H t (.tup vs)/\x=.ref t/\item i=.tup xs/\aK K F xs vs
 stop:∀F H,aM F H->aM F1 F->J.stop n H
theorem JQ.out {J:It} {item:Nat->D} (I:JQ C.K J n item F1) (rs:RS C p σ F H) (s:aM F1 F) (hi:i<n) (y:J.RC i H x H'):∃z,RS C p σ z H'/\aM F z/\Rep C.K z (item i) x:=by
 rcases I.RC i F H x H' rs.sub s hi y with ⟨rfl,r⟩|⟨t,xs,vs,h1,h2,Y,U,O⟩
 ·exact ⟨F,rs,.refl _,r⟩
 ·obtain ⟨B,z2,Z⟩:=rs.free h1
  subst h2 Y
  rw [U]
  exact ⟨_,rs.put h1,cP B _,.tup aN (O.mono (cP B _))⟩
abbrev sE:=aG->(Nat->(Nat->D)->aG->Prop)->Prop
def XI (C:Pc) (p:aG) (B:St) (F:Hp) (R:Nat->(Nat->D)->aG->Prop) (J:It) (I:Hp):Prop:=∃n item z F1,RS C z B F1 I/\aM F F1/\kE p z/\JQ C.K J n item F1/\R n item z
def vZ (C:Pc) (t:sE):TI:=λσ H Q=>∃p F R,RS C p σ F H/\t p R/\∀J H1,XI C p σ F R J H1->Q J H1
theorem QI.mk {t:TI} (h:PI X tg iter t) (hi:∀p σ F H R,RS C p σ F H->t' p R->t σ H (XI C p σ F R)):PI X tg iter (vZ C t'):=λpins s σ H Q I n=>by
 obtain ⟨p,F,R,rs,ht,hq⟩:=n
 exact bh (h pins s σ H _ I (hi p σ F H R rs ht)) λ_ _ h1=>bh h1 λ_ _ n=>by obtain ⟨it,fp,Z,J,H',Y,U,O,D,B,z⟩:=n;exact ⟨it,fp,Z,J,H',Y,U,O,D,B,hq J H' z⟩
theorem BZ {lo d:Int} {n:Nat} {z:Nat->Int} (e:∀i:Nat,lo+i * d=z i):JQ K (XC lo d n) n (λi=>.int (z i)) F:=⟨λi F H _ _ h=>h,λi F H x H' _ _ _ y=>by obtain ⟨h1,h2⟩:=y;subst h1 h2;rw [e];exact .inl ⟨rfl,.int _⟩,λ_ _ _ _=>zC _⟩
theorem getD_some {ds:List D} (h:i<ds.length):ds[i]? = some (ds.getD i .non):=by
 rw [zj,zd h];rfl
theorem Vx {ds:List D} (h:F x=some (.lst vs)) (r:aK K F ds vs):JQ K (Itl K x) ds.length (λi=>ds.getD i .non) F:=by
 have sq:∀{F1 H:Hp},aM F1 H->aM F F1->iI K H x vs:=λn s=>.of (n _ _ (s _ _ h))
 refine ⟨λi F1 H n s hi=>?_,λi F1 H v H' n s hi y=>?_,λF1 H n s=>⟨vs,sq n s,by rw [r.length];exact zC _⟩⟩
 ·obtain ⟨v,e1,_⟩:=r.get (getD_some hi)
  exact ⟨vs,v,sq n s,e1⟩
 ·obtain ⟨e1,e2⟩:=y
  subst e1
  obtain ⟨w,B,z⟩:=r.get (getD_some hi)
  have:=e2 vs (sq n s)
  rw [B] at this;cases this
  exact .inl ⟨rfl,z.mono s⟩
variable {tg:Expr} {cz:TAQ} {ps ps2:Pos}
def Vy (z:TAQ):sE:=λp Q=>z p λes n=>∃e j,es=[e]/\lk n e=.int j/\-(2 ^ 62)<=j/\j<2 ^ 62/\Q j.toNat (λi=>.int (0+i)) n
theorem jN (hg:Gl X "range") (Z:X.mg "range"=none) (ha:PA X [a] (gA C cz)) (Y:starEach [a] X.env=[(false,eval a X.env)]:=by rfl):PI X tg (.Call (.Name "range" ps) [a] [] pos) (vZ C (Vy cz)):=
 QI.mk (Fz hg Z ha Y) λp σ F H R J U=>dz J U λes1 O D F1 H1 n I sh z B=>by
  obtain ⟨e1,j,h1,h2,h3,h4,q⟩:=B
  obtain ⟨v,rfl,er⟩:=oA z h1
  exact ⟨j,by rw [aP er h2],h3,h4,_,_,O,F1,n,I,sh,BZ λ_=>by rw [Int.mul_one],q⟩
def Vz (z:TAQ):sE:=λp Q=>z p λes n=>∃e f i j,es=[e,f]/\lk n e=.int i/\lk n f=.int j/\(-(2 ^ 62)<=i/\i<2 ^ 62/\-(2 ^ 62)<=j/\j<2 ^ 62)/\Q (j - i).toNat (λk=>.int (i+k)) n
theorem qR (hg:Gl X "range") (hm:X.mg "range"=none) (ha:PA X [a,b] (gA C cz)) (hs:starEach [a,b] X.env=[(false,eval a X.env),(false,eval b X.env)]:=by rfl) (z:starEach [b] X.env=[(false,eval b X.env)]:=by rfl):PI X tg (.Call (.Name "range" ps) [a,b] [] pos) (vZ C (Vz cz)):=
 QI.mk (FJ hg hm ha hs z) λp σ F H R U Z=>dz U Z λes1 Y J F1 H1 n O sh B I=>by
  obtain ⟨e1,e2,i,j,h0,h1,h2,h3,q⟩:=I
  obtain ⟨v,w,rfl,er,D⟩:=BR B h0
  exact ⟨i,j,by rw [aP er h1,aP D h2],h3,_,_,Y,F1,n,O,sh,BZ λ_=>by rw [Int.mul_one],q⟩
def iqL (n:TQ):sE:=λp Q=>n p λe z=>∃ds,e=.fz (.lst ds)/\Q ds.length (λi=>ds.getD i .non) z
theorem dD (Y:X.K=C.K) (U:PE X a (Up C ta)):PI X tg a (vZ C (iqL ta)):=
 QI.mk (Il Y U) λp σ F H R I O=>up1 I O λe1 J Z F1 H1 n D sh z B=>by
  obtain ⟨ds,h1,q⟩:=B
  subst h1
  cases z with
  | lst q1 r1=>exact ⟨_,rfl,⟨_,.of (n.sub _ _ q1)⟩,_,_,J,F1,n,D,sh,Vx q1 r1,q⟩
def JH (ti:sE) (g:pQ) (z:iu):iu:=λE p=>ti p λn item D=>∃I:Nat->aG->Prop,I 0 D/\(∀i p2,i<n->I i p2->g (item i) p2 λB=>z { E with nx:=I (i+1),ct:=I (i+1),bk:=E.nx } B)/\∀p2,I n p2->E.nx p2
theorem jO {z:Expr} {body:List Stmt} {ti:sE} {g:pQ} {tb:iu} (hp:PassesOwn (model X.prog X.w) X.A X.env X.xe) (hc:X.calm=true) (hi:PI X tg z (vZ C ti)) (hg:PG X tg (Gs C g)) (hb:fX X body (iw C tb))
  (hs:∀x,foldedSetIterable z X.env x=pure x:=by intro _;rfl):PS X (.For tg z body [] pos) (iw C (JH ti g tb)):=
 QS.mk (HB hp hc hi hg hb hs) λp σ F H E rs ht=>⟨p,F,_,rs,ht,λJ H1 B=>by
  obtain ⟨n,item,p1,F1,Ea,s1,Ny,jq,I,i0,Z,B_⟩:=B
  refine ⟨λi m σ H=>m=n - i/\i<=n/\∃p F,RS C p σ F H/\aM F1 F/\I i p,⟨n,by simp,yN _,p1,F1,Ea,.refl _,i0⟩,?_⟩
  rintro i m σ2 H2 ⟨rfl,hi,p2,F2,O,s2,i2⟩
  by_cases U:i<n
  ·refine .inr ⟨jq.go i F2 H2 O.sub s2 U,λσ' H'=>∃p F,RS C p σ' F H'/\aM F1 F/\I (i+1) p,λσ' H' h=>⟨n - (i+1),by omega,rfl,U,h⟩,λx H' y=>?_⟩
   obtain ⟨F3,G_,s3,r3⟩:=jq.out O s2 U y
   refine ⟨p2,F3,item i,_,G_,r3,Z i p2 U i2,λσ4 H4 ⟨p4,F4,Pn,s4,q4⟩=>⟨p4,F4,_,Pn,q4,?_⟩⟩
   have D:aM F1 F4:=s2.trans (s3.trans s4)
   exact ⟨λ_ _ B=>by obtain ⟨Y,F5,a,b,c⟩:=B;exact ⟨Y,F5,a,D.trans b,c⟩,λ_ _ B=>by obtain ⟨r,Y,σ5,F5,a,b,c⟩:=B;exact ⟨r,Y,σ5,F5,a,s1.trans (D.trans b),c⟩,λ_ _ B=>by obtain ⟨Y,F5,a,b,c⟩:=B;exact ⟨Y,F5,a,s1.trans (D.trans b),c⟩,λ_ _ B=>by obtain ⟨Y,F5,a,b,c⟩:=B;exact ⟨Y,F5,a,D.trans b,c⟩⟩
  ·have e:i=n:=by omega
   subst e
   exact .inl ⟨jq.stop F2 H2 O.sub s2,p2,F2,O,s1.trans s2,B_ p2 i2⟩⟩
def JK (c:mQ) (B:iu):iu:=λE p=>∃(I:aG->Prop) (n:aG->Nat),I p/\∀z,I z->c z λb p2=>if b=true then B { E with nx:=λq=>I q/\n q<n z,ct:=λq=>I q/\n q<n z,bk:=E.nx } p2 else E.nx p2
theorem JL {c:Expr} {body:List Stmt} {tc:mQ} {tb:iu} (hp:PassesOwn (model X.prog X.w) X.A X.env X.xe) (hc:PT X c (gj C tc)) (hb:fX X body (iw C tb)):PS X (.While c body [] pos) (iw C (JK tc tb)):=
 QS.mk (wB hp hc hb) λp σ F H E rs n=>by
  obtain ⟨I,μ,i0,step⟩:=n
  refine ⟨λm O H1=>∃J F1,RS C J O F1 H1/\aM F F1/\I J/\m=μ J,⟨_,p,F,rs,.refl _,i0,rfl⟩,?_⟩
  rintro m O H1 ⟨J,F1,Ea,s1,i1,rfl⟩
  refine pG Ea (step J i1) λk p2 F2 H2 U s2 sh q=>?_
  refine dB (λq=>?_) (λq=>?_) q
  ·refine ⟨λσ' H'=>∃Y Z,RS C Y σ' Z H'/\aM F Z/\I Y/\μ Y<μ J,λσ' H' n=>by obtain ⟨Y,Z,z1,z2,z3,z4⟩:=n;exact ⟨_,z4,Y,Z,z1,z2,z3,rfl⟩,p2,F2,_,U,q,?_⟩
   have z:=s1.trans s2
   exact ⟨λ_ _ n=>by obtain ⟨B,D,a,b,c,d⟩:=n;exact ⟨B,D,a,z.trans b,c,d⟩,λ_ _ n=>by obtain ⟨r,B,σ5,D,a,b,c⟩:=n;exact ⟨r,B,σ5,D,a,z.trans b,c⟩,λ_ _ n=>by obtain ⟨B,D,a,b,c⟩:=n;exact ⟨B,D,a,z.trans b,c⟩,λ_ _ n=>by obtain ⟨B,D,a,b,c,d⟩:=n;exact ⟨B,D,a,z.trans b,c,d⟩⟩
  ·exact ⟨p2,F2,U,s1.trans s2,q⟩
end
abbrev eE:=List Sl->(Rt->List Sl->Prop)->Prop
def acp (K:PySem.W.Frag) (F H:Hp):Sl->V->Prop
 | .d x,v=>Rep K F x v
 | .own _,_=>False
 | .bor xs,v=>∃a vs,v=.ref a/\F a=none/\H a=some (.lst vs)/\aK K F xs vs
structure xR (K:PySem.W.Frag) (F H:Hp) (as:List Sl) (vs:List V):Prop where
 len:as.length=vs.length
 at_:∀(i:Nat) (s:Sl),as[i]? = some s->∃v,vs[i]? = some v/\acp K F H s v
 apart:∀(i j:Nat) (xs ys:List D) (a:Addr),i≠j->as[i]? = some (.bor xs)->as[j]? = some (.bor ys)->vs[i]? = some (.ref a)->vs[j]? = some (.ref a)->False
structure Post (K:PySem.W.Frag) (F H:Hp) (as:List Sl) (vs:List V) (r:Rt) (as':List Sl) (v:V) (F' H':Hp):Prop where
 ext:aM F F'
 sub:aM F' H'
 new:∀a o,F' a=some o->F a=some o\/H a=none\/∃xs,o=.tup xs
 keep:∀a o,H a=some o->(∀(i:Nat) (xs:List D),as[i]? = some (.bor xs)->vs[i]?≠some (.ref a))->H' a=some o
 grow:∀a,H a≠none->H' a≠none
 args:∀(i:Nat) (xs:List D),as[i]? = some (.bor xs)->∃ys a us,as'[i]? = some (.bor ys)/\vs[i]? = some (.ref a)/\F' a=none/\H' a=some (.lst us)/\aK K F' ys us
 res:match r with
  | .rd x=>Rep K F' x v
  | .ro xs=>∃a us,v=.ref a/\F' a=none/\H a=none/\H' a=some (.lst us)/\aK K F' xs us
abbrev Bc:=Hp->eE
def VB (K:PySem.W.Frag) (S:Bc):Sp:=λvs H Q _=>∃as F R,aM F H/\xR K F H as vs/\S H as R/\∀r n v z H',Post K F H as vs r n v z H'->R r n->Q v H'
def Gv (K:PySem.W.Frag) (S:eE):Sp:=λvs H Q _=>∃as F R,aM F H/\xR K F H as vs/\S as R/\∀r n v z H',Post K F H as vs r n v z H'->R r n->Q v H'
def jP (p:aG):Ev->Option Sl
 | .fz x=>some (.d x)
 | .ow i=>match d_ p i with
  | some xs=>some (.bor xs)
  | none=>none
def dj (p:aG):List Ev->Option (List Sl)
 | []=>some []
 | e::r=>match jP p e,dj p r with
  | some s,some ss=>some (s::ss)
  | _,_=>none
def dY:List Ev->List Nat
 | []=>[]
 | .fz _::r=>dY r
 | .ow i::r=>i::dY r
def back:aG->List Ev->List Sl->aG
 | p,.ow i::es,.bor ys::as=>back (putL p i ys) es as
 | p,_::es,_::as=>back p es as
 | p,_,_=>p
theorem lF {p:aG}:∀{es:List Ev} {as:List Sl},dj p es=some as->as.length=es.length/\∀(i:Nat) (e:Ev),es[i]? = some e->∃s,as[i]? = some s/\jP p e=some s
 | [],as,h=>by cases h;exact ⟨rfl,λi e z=>by simp at z⟩
 | e::r,as,h=>by
  unfold dj at h
  cases h1:jP p e with
  | none=>rw [h1] at h;cases h
  | some s=>
   cases h2:dj p r with
   | none=>rw [h1,h2] at h;cases h
   | some ss=>
    rw [h1,h2] at h;cases h
    obtain ⟨l,g⟩:=lF h2
    refine ⟨by simp [l],λi n z=>?_⟩
    cases i with
    | zero=>simp at z;subst z;exact ⟨s,by simp,h1⟩
    | succ i=>exact (by simpa using g i n (by simpa using z))
theorem xT {k:Nat}:(putL p i ys)[k]? = (if k=i then (match p[k]? with|some (some s)=>some (some (s.put ys))|o=>o) else p[k]?):=by
 unfold putL
 by_cases n:k=i
 ·subst n
  rw [zo rfl]
  cases h:p[k]? with
  | none=>simp [h]
  | some o=>
   cases o with
   | none=>simp [h]
   | some s=>
    have z:k<p.length:=(zx.mp h).1
    simp only []
    rw [zM z]
 ·rw [zi n]
  split
  ·rw [zz (Ne.symm n)]
  ·rfl
theorem JM {p:aG}:(putL p i ys).length=p.length:=by
 unfold putL
 split
 ·exact ye
 ·rfl
theorem iM:∀{es:List Ev} {as:List Sl} {p:aG},(back p es as).length=p.length
 | [],_,_=>by unfold back;rfl
 | .fz x::es,[],p=>by unfold back;rfl
 | .ow i::es,[],p=>by unfold back;rfl
 | .fz x::es,a::as,p=>by unfold back;exact iM
 | .ow i::es,.bor ys::as,p=>by unfold back;rw [iM,JM]
 | .ow i::es,.d y::as,p=>by unfold back;exact iM
 | .ow i::es,.own y::as,p=>by unfold back;exact iM
theorem jQ:∀{es:List Ev} {k:Nat} {m:Nat},es[m]? = some (.ow k)->k∈dY es
 | [],k,m,h=>by simp at h
 | .fz x::r,k,m,h=>by
  unfold dY
  cases m with
  | zero=>simp at h
  | succ m=>exact jQ (m:=m) (by simpa using h)
 | .ow i::r,k,m,h=>by
  unfold dY
  cases m with
  | zero=>simp at h;subst h;exact zn
  | succ m=>exact zr _ (jQ (m:=m) (by simpa using h))
theorem fB:∀{es:List Ev} {as:List Sl} {p:aG} {k:Nat},(dY es).Nodup->
  (∃(m:Nat) (ys:List D) (s:Sl),es[m]? = some (.ow k)/\as[m]? = some (.bor ys)/\p[k]? = some (some s)/\(back p es as)[k]? = some (some (s.put ys))) \/
  ((∀(m:Nat) (ys:List D) (s:Sl),es[m]? = some (.ow k)->as[m]? = some (.bor ys)->p[k]? = some (some s)->False)/\(back p es as)[k]? = p[k]?)
 | [],as,p,k,_=>.inr ⟨λm ys s h=>by simp at h,by unfold back;rfl⟩
 | .fz x::es,[],p,k,_=>.inr ⟨λm ys s _ h=>by simp at h,by unfold back;rfl⟩
 | .ow i::es,[],p,k,_=>.inr ⟨λm ys s _ h=>by simp at h,by unfold back;rfl⟩
 | .fz x::es,a::as,p,k,nd=>by
  have e:back p (.fz x::es) (a::as)=back p es as:=by conv=>lhs;unfold back
  rw [e]
  rcases fB (es:=es) (as:=as) (p:=p) (k:=k) nd with ⟨m,ys,s,h1,h2,O,J⟩|⟨h1,h2⟩
  ·exact .inl ⟨m+1,ys,s,by simpa using h1,by simpa using h2,O,J⟩
  ·refine .inr ⟨λm ys s n z U=>?_,h2⟩
   cases m with
   | zero=>simp at n
   | succ m=>exact h1 m ys s (by simpa using n) (by simpa using z) U
 | .ow i::es,.d y::as,p,k,nd=>by
  have e:back p (.ow i::es) (.d y::as)=back p es as:=by conv=>lhs;unfold back
  rw [e]
  have I:(dY es).Nodup:=by unfold dY at nd;exact (yr.mp nd).2
  rcases fB (es:=es) (as:=as) (p:=p) (k:=k) I with ⟨m,ys,s,h1,h2,O,J⟩|⟨h1,h2⟩
  ·exact .inl ⟨m+1,ys,s,by simpa using h1,by simpa using h2,O,J⟩
  ·refine .inr ⟨λm ys s n z U=>?_,h2⟩
   cases m with
   | zero=>simp at z
   | succ m=>exact h1 m ys s (by simpa using n) (by simpa using z) U
 | .ow i::es,.own y::as,p,k,nd=>by
  have e:back p (.ow i::es) (.own y::as)=back p es as:=by conv=>lhs;unfold back
  rw [e]
  have I:(dY es).Nodup:=by unfold dY at nd;exact (yr.mp nd).2
  rcases fB (es:=es) (as:=as) (p:=p) (k:=k) I with ⟨m,ys,s,h1,h2,O,J⟩|⟨h1,h2⟩
  ·exact .inl ⟨m+1,ys,s,by simpa using h1,by simpa using h2,O,J⟩
  ·refine .inr ⟨λm ys s n z U=>?_,h2⟩
   cases m with
   | zero=>simp at z
   | succ m=>exact h1 m ys s (by simpa using n) (by simpa using z) U
 | .ow i::es,.bor zs::as,p,k,nd=>by
  have e:back p (.ow i::es) (.bor zs::as)=back (putL p i zs) es as:=by conv=>lhs;unfold back
  rw [e]
  have B:i ∉ dY es/\(dY es).Nodup:=by unfold dY at nd;exact yr.mp nd
  by_cases Y:k=i
  ·subst Y
   rcases fB (es:=es) (as:=as) (p:=putL p k zs) (k:=k) B.2 with ⟨m,ys,s,h1,_⟩|⟨h1,h2⟩
   ·exact absurd (jQ h1) B.1
   ·rw [h2,xT,zo rfl]
    cases h:p[k]? with
    | none=>exact .inr ⟨λm ys s _ _ g=>(by cases g),rfl⟩
    | some o=>
     cases o with
     | none=>exact .inr ⟨λm ys s _ _ g=>(by cases g),rfl⟩
     | some s=>exact .inl ⟨0,zs,s,by simp,by simp,rfl,rfl⟩
  ·have Z:(putL p i zs)[k]? = p[k]?:=by rw [xT,zi Y]
   rcases fB (es:=es) (as:=as) (p:=putL p i zs) (k:=k) B.2 with ⟨m,ys,s,h1,h2,O,J⟩|⟨h1,h2⟩
   ·exact .inl ⟨m+1,ys,s,by simpa using h1,by simpa using h2,by rw [<-Z];exact O,J⟩
   ·refine .inr ⟨λm ys s n z U=>?_,by rw [h2,Z]⟩
    cases m with
    | zero=>simp at n;exact Y n.symm
    | succ m=>exact h1 m ys s (by simpa using n) (by simpa using z) (by rw [Z];exact U)
theorem pR {K:PySem.W.Frag} {p:aG} {n:St} {F:Hp}:∀{es:List Ev} {vs:List V},mR K p n F es vs->es.length=vs.length/\∀(i:Nat) (e:Ev),es[i]? = some e->∃v,vs[i]? = some v/\kI K p n F e v
 | _,_,.nil=>⟨rfl,λi e z=>by simp at z⟩
 | _,_,.cons h t=>by
  obtain ⟨l,g⟩:=pR t
  refine ⟨by simp [l],λi B z=>?_⟩
  cases i with
  | zero=>simp at z;subst z;exact ⟨_,by simp,h⟩
  | succ i=>exact (by simpa using g i B (by simpa using z))
section
variable {X:Cx} {C:Pc} {a b c e:Expr} {ta tb tc:TQ} {pos:Pos} {K:PySem.W.Frag} {p:aG} {σ:St} {F H:Hp} {st:Stmt} {es:List Expr} {cz:TAQ}
theorem fZ {es:List Ev} {vs:List V} {as:List Sl} (rs:RS C p σ F H) (er:mR C.K p σ F es vs) (ha:dj p es=some as) (nd:(dY es).Nodup):xR C.K F H as vs /\
  ∀(m:Nat) (xs:List D),as[m]? = some (.bor xs)->∃(k:Nat) (s:Sl) (a:Addr),es[m]? = some (.ow k)/\p[k]? = some (some s)/\s.mu=true/\σ[k]? = some (some (.ref a))/\vs[m]? = some (.ref a):=by
 obtain ⟨l1,g1⟩:=lF ha
 obtain ⟨l2,g2⟩:=pR er
 have J:∀(m:Nat) (xs:List D),as[m]? = some (.bor xs)->∃(k:Nat) (s:Sl) (a:Addr) (vs':List V),es[m]? = some (.ow k)/\p[k]? = some (some s)/\s.mu=true/\σ[k]? = some (some (.ref a))/\vs[m]? = some (.ref a)/\F a=none/\H a=some (.lst vs')/\aK C.K F xs vs':=λm xs h=>by
  have hm:m<es.length:=by rw [<-l1];exact (zx.mp h).1
  obtain ⟨s0,e1,e2⟩:=g1 m _ (zd hm)
  rw [h] at e1;cases e1
  cases B:es[m] with
  | fz x=>rw [B] at e2;cases e2
  | ow k=>
   rw [B] at e2
   have hmut:d_ p k=some xs:=by
    unfold jP at e2
    cases O:d_ p k with
    | none=>simp [O] at e2
    | some ys=>simp [O] at e2;rw [e2]
   obtain ⟨s,a,vs',h1,h2,h3,h4,h5,h6⟩:=jK rs hmut
   obtain ⟨v,e3,I⟩:=g2 m _ (zd hm)
   rw [B] at I
   have:=I.2
   rw [h3] at this;cases this
   have fa:F a=none:=by
    obtain ⟨w,Y,U⟩:=rs.sl k s h1
    rw [h3] at Y;cases Y
    cases s with
    | d x=>cases h2
    | own xs=>obtain ⟨_,_,z,y,_⟩:=U;cases z;exact y
    | bor xs=>obtain ⟨_,_,z,y,_⟩:=U;cases z;exact y
   exact ⟨k,s,a,vs',by rw [zd hm,B],h1,h2,h3,e3,fa,h4,h5⟩
 refine ⟨⟨by rw [l1,l2],λi s h=>?_,λi j xs ys x hij h1 h2 h3 h4=>?_⟩,λm xs h=>?_⟩
 ·have hm:i<es.length:=by rw [<-l1];exact (zx.mp h).1
  obtain ⟨s0,e1,e2⟩:=g1 i _ (zd hm)
  rw [h] at e1;cases e1
  obtain ⟨v,e3,I⟩:=g2 i _ (zd hm)
  cases s with
  | d x=>
   refine ⟨v,e3,?_⟩
   cases B:es[i] with
   | fz y=>rw [B] at e2;rw [B] at I;cases e2;exact I
   | ow k=>
    rw [B] at e2
    unfold jP at e2
    cases O:d_ p k with
    | none=>simp [O] at e2
    | some ys=>simp [O] at e2
  | own xs=>
   cases B:es[i] with
   | fz y=>simp [B,jP] at e2
   | ow k=>
    rw [B] at e2
    unfold jP at e2
    cases O:d_ p k with
    | none=>simp [O] at e2
    | some ys=>simp [O] at e2
  | bor xs=>
   obtain ⟨k,s,x,vs',Y,U,z3,z4,Z,z6,z7,z8⟩:=J i xs h
   exact ⟨_,Z,x,vs',rfl,z6,z7,z8⟩
 ·obtain ⟨k,s,x1,vs',Y,U,z3,z4,Z,z6,z7,z8⟩:=J i xs h1
  obtain ⟨k',s',x2,vs'',y1,y2,y3,y4,y5,y6,y7,y8⟩:=J j ys h2
  rw [h3] at Z;cases Z
  rw [h4] at y5;cases y5
  by_cases hk:k=k'
  ·subst hk
   -- the same slot twice
   have n:∀{l:List Ev} {i j k:Nat},(dY l).Nodup->l[i]? = some (.ow k)->l[j]? = some (.ow k)->i=j:=by
    intro l
    induction l with
    | nil=>intro i j k _ h;simp at h
    | cons e r ih=>
     intro i j k nd h h'
     cases e with
     | fz x=>
      cases i with
      | zero=>simp at h
      | succ i=>
       cases j with
       | zero=>simp at h'
       | succ j=>exact zV _ (ih (i:=i) (j:=j) (k:=k) (by unfold dY at nd;exact nd) (by simpa using h) (by simpa using h'))
     | ow q=>
      unfold dY at nd
      obtain ⟨n1,n2⟩:=yr.mp nd
      cases i with
      | zero=>
       simp at h;subst h
       cases j with
       | zero=>rfl
       | succ j=>exact absurd (jQ (m:=j) (by simpa using h')) n1
      | succ i=>
       cases j with
       | zero=>simp at h';subst h';exact absurd (jQ (m:=i) (by simpa using h)) n1
       | succ j=>exact zV _ (ih (i:=i) (j:=j) (k:=k) n2 (by simpa using h) (by simpa using h'))
   exact hij (n nd Y y1)
  ·exact rs.apart k k' s s' x hk U z3 y2 y3 z4 y4
 ·obtain ⟨k,s,x,vs',Y,U,z3,z4,Z,z6,z7,z8⟩:=J m xs h
  exact ⟨k,s,x,Y,U,z3,z4,Z⟩
theorem RS.call {es:List Ev} {vs:List V} {as D:List Sl} {r:Rt} {v:V} {F' H':Hp} (rs:RS C p σ F H) (er:mR C.K p σ F es vs) (ha:dj p es=some as) (nd:(dY es).Nodup) (po:Post C.K F H as vs r D v F' H') :
  RS C (back p es D) σ F' H'/\kE p (back p es D)/\Jd C (back p es D) σ F' H' r v:=by
 obtain ⟨ar,Y⟩:=fZ rs er ha nd
 obtain ⟨l1,g1⟩:=lF ha
 obtain ⟨l2,g2⟩:=pR er
 -- an address of ours that is Y is the acq
 have kept:∀(k:Nat) (s:Sl) (x:Addr) (o:HO),p[k]? = some (some s)->s.mu=true->σ[k]? = some (some (.ref x))->H x=some o->(∀m:Nat,es[m]?≠some (.ow k))->H' x=some o:=λk s x o h1 h2 h3 h4 h5=>by
  refine po.keep x o h4 λi xs I O=>?_
  obtain ⟨k',s',x',y1,y2,Z,y4,y5⟩:=Y i xs I
  rw [O] at y5;cases y5
  by_cases hk:k=k'
  ·subst hk;exact h5 i y1
  ·exact rs.apart k k' s s' x hk h1 h2 y2 Z h3 y4
 have U:∀x B,F x=none->H x≠none->H' x=some (.lst B)->F' x=none:=λx B h1 h2 h3=>by
  cases q:F' x with
  | none=>rfl
  | some o=>
   rcases po.new x o q with z|z|⟨ys,z⟩
   ·rw [h1] at z;cases z
   ·exact absurd z h2
   ·subst z
    have:=po.sub x _ q
    rw [h3] at this;cases this
 have slot:∀(k:Nat) (s:Sl),(back p es D)[k]? = some (some s)->∃J,p[k]? = some (some J)/\s.mu=J.mu/\(∀xs,J=.own xs->∃ys,s=.own ys)/\(∀xs,J=.bor xs->∃ys,s=.bor ys)/\(J.mu=false->s=J) /\
   (s.mu=true->∃x B ys,σ[k]? = some (some (.ref x))/\F' x=none/\H' x=some (.lst B)/\aK C.K F' ys B/\(s=.own ys\/s=.bor ys)):=λk s h=>by
  rcases fB (es:=es) (as:=D) (p:=p) (k:=k) nd with ⟨m,ys,J,h1,h2,h3,h4⟩|⟨h1,h2⟩
  ·rw [h4] at h;cases h
   obtain ⟨s1,q1,q2⟩:=g1 m _ h1
   have q3:∃xs,s1=.bor xs:=by
    unfold jP at q2
    cases hq:d_ p k with
    | none=>simp [hq] at q2
    | some zs=>simp [hq] at q2;exact ⟨zs,q2.symm⟩
   obtain ⟨xs,rfl⟩:=q3
   obtain ⟨ys',x,B,a1,a2,a3,a4,a5⟩:=po.args m xs q1
   rw [h2] at a1;cases a1
   obtain ⟨k',s',x',y1,y2,Z,y4,y5⟩:=Y m xs q1
   rw [h1] at y1;cases y1
   rw [h3] at y2;cases y2
   rw [a2] at y5;cases y5
   refine ⟨J,h3,?_,λxs z=>⟨ys,by subst z;rfl⟩,λxs z=>⟨ys,by subst z;rfl⟩,λz=>?_,λ_=>⟨x,B,ys,y4,a3,a4,a5,?_⟩⟩
   ·cases J<;>rfl
   ·rw [Z] at z;cases z
   ·cases J with
    | d x=>cases Z
    | own xs=>exact .inl rfl
    | bor xs=>exact .inr rfl
  ·rw [h2] at h
   refine ⟨s,h,rfl,λxs z=>⟨xs,z⟩,λxs z=>⟨xs,z⟩,λ_=>rfl,λhm=>?_⟩
   obtain ⟨w,I,O⟩:=rs.sl k s h
   have nl:∀m:Nat,es[m]?≠some (.ow k):=λm hm'=>by
    obtain ⟨s1,q1,q2⟩:=g1 m _ hm'
    have q3:∃xs,s1=.bor xs:=by
     unfold jP at q2
     cases hq:d_ p k with
     | none=>simp [hq] at q2
     | some zs=>simp [hq] at q2;exact ⟨zs,q2.symm⟩
    obtain ⟨xs,rfl⟩:=q3
    obtain ⟨ys',x,B,a1,a2,a3,a4,a5⟩:=po.args m xs q1
    exact h1 m ys' s hm' a1 h
   cases s with
   | d x=>cases hm
   | own xs=>
    obtain ⟨x,B,rfl,y1,y2,Z,y4⟩:=O
    have hH:=kept k _ x _ h rfl I Z nl
    exact ⟨x,B,xs,I,U x B y1 (by rw [Z];intro z;cases z) hH,hH,y4.mono po.ext,.inl rfl⟩
   | bor xs=>
    obtain ⟨x,B,rfl,y1,y2,Z,y4⟩:=O
    have hH:=kept k _ x _ h rfl I Z nl
    exact ⟨x,B,xs,I,U x B y1 (by rw [Z];intro z;cases z) hH,hH,y4.mono po.ext,.inr rfl⟩
 have rs':RS C (back p es D) σ F' H':=by
  refine ⟨po.sub,rs.ext.trans po.ext,λx o q=>?_,λx o q n=>?_,λx n=>po.grow x (rs.grow x n),by rw [iM];exact rs.len,λk s h=>?_,λi j s s' x hij e1 m1 e2 m2 x1 x2=>?_,λq hq=>?_⟩
  ·rcases po.new x o q with z|z|z
   ·exact rs.new x o z
   ·exact .inr (.inl (rs.free z).2.1)
   ·exact .inr (.inr z)
  ·refine po.keep x o (rs.keep x o q n) λi xs I O=>?_
   obtain ⟨k',s',x',y1,y2,Z,y4,y5⟩:=Y i xs I
   rw [O] at y5;cases y5
   obtain ⟨w,w1,w2⟩:=rs.sl k' s' y2
   rw [y4] at w1;cases w1
   cases s' with
   | d x=>cases Z
   | own xs=>obtain ⟨_,_,z,_,y,_⟩:=w2;cases z;rw [y] at q;cases q
   | bor xs=>obtain ⟨_,_,z,_,⟨q',hq',y⟩,_⟩:=w2;cases z;exact n q' hq' y
  ·obtain ⟨J,h0,hm,ho,hb,hd,hl⟩:=slot k s h
   obtain ⟨w,w1,w2⟩:=rs.sl k J h0
   refine ⟨w,w1,?_⟩
   cases J with
   | d x=>rw [hd rfl];exact Rep.mono po.ext w2
   | own xs=>
    obtain ⟨ys,rfl⟩:=ho xs rfl
    obtain ⟨x,B,ys',I,O,z3,z4,z5⟩:=hl rfl
    rw [w1] at I;cases I
    obtain ⟨_,_,z,_,y,_⟩:=w2;cases z
    rcases z5 with z5|z5<;>cases z5
    exact ⟨x,B,rfl,O,y,z3,z4⟩
   | bor xs=>
    obtain ⟨ys,rfl⟩:=hb xs rfl
    obtain ⟨x,B,ys',I,O,z3,z4,z5⟩:=hl rfl
    rw [w1] at I;cases I
    obtain ⟨_,_,z,_,y,_⟩:=w2;cases z
    rcases z5 with z5|z5<;>cases z5
    exact ⟨x,B,rfl,O,y,z3,z4⟩
  ·obtain ⟨s1,h1,hm1,_⟩:=slot i s e1
   obtain ⟨s2,h2,hm2,_⟩:=slot j s' e2
   exact rs.apart i j s1 s2 x hij h1 (by rw [<-hm1];exact m1) h2 (by rw [<-hm2];exact m2) x1 x2
  ·obtain ⟨I,xs,O⟩:=rs.pin q hq
   refine ⟨I,?_⟩
   rcases fB (es:=es) (as:=D) (p:=p) (k:=q.1) nd with ⟨m,ys,J,h1,h2,h3,h4⟩|⟨h1,h2⟩
   ·rw [O] at h3;cases h3
    exact ⟨ys,h4⟩
   ·exact ⟨xs,by rw [h2];exact O⟩
 refine ⟨rs',⟨iM,λk s h m=>?_⟩,?_⟩
 ·rcases fB (es:=es) (as:=D) (p:=p) (k:=k) nd with ⟨m',ys,J,h1,h2,h3,h4⟩|⟨h1,h2⟩
  ·rw [h] at h3;cases h3
   exact ⟨_,h4,by cases s<;>first|rfl|cases m⟩
  ·exact ⟨s,by rw [h2];exact h,m⟩
 ·have res:=po.res
  cases r with
  | rd x=>exact res
  | ro xs=>
   obtain ⟨x,B,I,O,z3,z4,z5⟩:=res
   refine ⟨x,B,I,O,(rs.free z3).2.1,z4,z5,λk s h m z=>?_⟩
   obtain ⟨J,h0,hm,_⟩:=slot k s h
   exact (rs.free z3).2.2 k J h0 (by rw [<-hm];exact m) z
def JN (S:eE) (t:TAQ):TN:=λp Q=>t p λes z=>∃as,dj z es=some as/\(dY es).Nodup/\S as λr n=>Q r (back z es n)
theorem aj {x:Str} {st:Stmt} {ps:List Str} {k:Nat} {S:eE} {p0:Pos} (hK:X.K=C.K) (D:aF X.K X.mg x st ps) (G:bO X.prog X.w X.K X.mg X.base lB k D.f D.fd ps (Gv X.K S)) (hr:bI k X.A) (ha:PA X (e::es) (gA C cz))
  (hg:Gl X x:=by rfl) (J:(x == ("__debug__":Str))=false:=by decide) (he:starEach (e::es) X.env=(false,eval e X.env)::starEach es X.env:=by rfl) (hpl:(backTo pos (starEach es X.env)).any (·.1)=false:=by rfl) :
  PE X (.Call (.Name x p0) (e::es) [] pos) (lD C (JN S cz)):=
 QN.mk (qy D G hr ha hg J he hpl) λp σ F H R Z ht=>dz Z ht λes1 p1 U F1 H1 n Y sh z O=>by
  obtain ⟨as,h1,nd,q⟩:=O
  rw [ya,hK]
  refine ⟨as,F1,_,n.sub,(fZ n z h1 nd).1,q,λr as' v F' H' po hq=>?_⟩
  obtain ⟨I,B,rr⟩:=n.call z h1 nd po
  exact ⟨r,_,F',I,Y.trans po.ext,sh.trans B,rr,hq⟩
def outs:List Sl->aG->List Sl
 | [],_=>[]
 | .bor _::r,some s::p=>s::outs r p
 | s::r,_::p=>s::outs r p
 | s::r,[]=>s::r
theorem jR:∀{as:List Sl} {p:aG} {i:Nat} {xs:List D} {s:Sl},as[i]? = some (.bor xs)->p[i]? = some (some s)->(outs as p)[i]? = some s
 | [],p,i,xs,s,h,_=>by simp at h
 | a::as,[],i,xs,s,_,h=>by simp at h
 | .bor ys::as,o::p,0,xs,s,h,h'=>by
  simp at h';subst h';unfold outs;simp
 | .d y::as,o::p,0,xs,s,h,h'=>by simp at h
 | .own y::as,o::p,0,xs,s,h,h'=>by simp at h
 | .bor ys::as,none::p,i+1,xs,s,h,h'=>by
  unfold outs;simpa using jR (as:=as) (p:=p) (i:=i) (xs:=xs) (s:=s) (by simpa using h) (by simpa using h')
 | .bor ys::as,some q::p,i+1,xs,s,h,h'=>by
  unfold outs;simpa using jR (as:=as) (p:=p) (i:=i) (xs:=xs) (s:=s) (by simpa using h) (by simpa using h')
 | .d ys::as,o::p,i+1,xs,s,h,h'=>by
  unfold outs;simpa using jR (as:=as) (p:=p) (i:=i) (xs:=xs) (s:=s) (by simpa using h) (by simpa using h')
 | .own ys::as,o::p,i+1,xs,s,h,h'=>by
  unfold outs;simpa using jR (as:=as) (p:=p) (i:=i) (xs:=xs) (s:=s) (by simpa using h) (by simpa using h')
def cB:Nat->List Sl->List V->List (Nat × Addr)
 | n,.bor _::as,.ref a::vs=>(n,a)::cB (n+1) as vs
 | n,_::as,_::vs=>cB (n+1) as vs
 | _,_,_=>[]
theorem qT:∀{as:List Sl} {vs:List V} {n:Nat} {q:Nat × Addr},q∈cB n as vs->∃(m:Nat) (xs:List D),q.1=n+m/\as[m]? = some (.bor xs)/\vs[m]? = some (.ref q.2)
 | [],vs,n,q,h=>by unfold cB at h;simp at h
 | a::as,[],n,q,h=>by cases a<;>(unfold cB at h;simp at h)
 | a::as,v::vs,n,q,h=>by
  have step:q∈cB (n+1) as vs->∃(m:Nat) (xs:List D),q.1=n+m/\(a::as)[m]? = some (.bor xs)/\(v::vs)[m]? = some (.ref q.2):=λh=>by
   obtain ⟨m,xs,h1,h2,z⟩:=qT h
   exact ⟨m+1,xs,by omega,by simpa using h2,by simpa using z⟩
  cases a with
  | bor ys=>
   cases v with
   | ref x=>
    unfold cB at h
    rcases zu.mp h with h|h
    ·subst h;exact ⟨0,ys,by simp,by simp,by simp⟩
    ·exact step h
   | _=>exact step (by unfold cB at h;exact h)
  | d y=>exact step (by unfold cB at h;exact h)
  | own y=>exact step (by unfold cB at h;exact h)
theorem lG:∀{as:List Sl} {vs:List V} {n m:Nat} {xs:List D} {x:Addr},as[m]? = some (.bor xs)->vs[m]? = some (.ref x)->(n+m,x)∈cB n as vs
 | [],vs,n,m,xs,x,h,_=>by simp at h
 | a::as,[],n,m,xs,x,_,h=>by simp at h
 | a::as,v::vs,n,0,xs,x,h,h'=>by
  simp at h h';subst h h';unfold cB;simp
 | a::as,v::vs,n,m+1,xs,x,h,h'=>by
  have z:=lG (as:=as) (vs:=vs) (n:=n+1) (m:=m) (xs:=xs) (x:=x) (by simpa using h) (by simpa using h')
  have e:n+(m+1)=n+1+m:=by omega
  rw [e]
  cases a with
  | bor ys=>
   cases v with
   | ref y=>unfold cB;exact zr _ z
   | _=>unfold cB;exact z
  | d y=>unfold cB;exact z
  | own y=>unfold cB;exact z
def bM (N:List Str) (as:List Sl):aG:=as.map some++List.replicate (N.length - as.length) none
end
section
variable {P:Program} {w:World} {K:PySem.W.Frag} {mg:Str->Option Value} {base:Heap}
theorem sy.Pq {x O:Str} {st:Stmt} {f:Addr} {fd:FuncData} {N ps:List Str} {k:Nat} {S:Bc} (Fn:sy K x O st f fd) (Sc:ao N ps (aa st)) (len:∀H as R,S H as R->as.length=ps.length)
  (hbody:∀(Y:Value) (A:Around) (outer:List Env) (s:Shared) (H:Hp) (E:XK) (C:Pc) (as:List Sl) (R:Rt->List Sl->Prop),K=C.K->C.H0=H->(∀q∈C.bs,(∃xs,as[q.1]? = some (.bor xs))/\∃Z,H q.2=some (.lst Z))->bI k (A.deeper (envOfC O (aa st) s.heap.objs.size f Y))->S H as R->
   ∃t,fX (d9 lB P w K mg base N O (aa st) f Y A outer s H E).RB (cY st) (iw C t)/\t { nx:=λp=>R (.rd .non) (outs as p),rt:=λr p=>R r (outs as p) } (bM N as)):bO P w K mg base lB (k+1) f fd ps (VB K S):=by
 refine Fn.ok Sc (λvs H Q E h=>?_) (λY A outer s H vs Q E hr h=>?_)
 ·obtain ⟨as,F,R,h1,h2,h3,h4⟩:=h
  rw [<-h2.len];exact len _ as R h3
 obtain ⟨as,F,R,Y7,ar,hS,U⟩:=h
 have bsm:∀q∈cB 0 as vs,∃xs,as[q.1]? = some (.bor xs)/\vs[q.1]? = some (.ref q.2):=λq U=>by
  obtain ⟨m,xs,h1,h2,h3⟩:=qT U
  rw [Nat.zero_add] at h1
  rw [h1]
  exact ⟨xs,h2,h3⟩
 have hb:=hbody Y A outer s H E ⟨K,F,H,cB 0 as vs⟩ as R rfl rfl (λq U=>by
  obtain ⟨xs,e,e2⟩:=bsm q U
  obtain ⟨v,h1,a,Z,rfl,_,h3,_⟩:=ar.at_ _ _ e
  rw [e2] at h1;cases h1
  exact ⟨⟨xs,e⟩,Z,h3⟩) hr hS
 obtain ⟨t,ht,tq⟩:=hb
 have J:∀(i:Nat) (s:Sl),(bM N as)[i]? = some (some s)->as[i]? = some s:=λi s h=>by
  unfold bM at h
  by_cases hi:i<as.length
  ·rw [zS (by simpa using hi)] at h
   simpa using h
  ·rw [yf (by simpa using xE hi),zX] at h
   split at h<;>cases h
 have I:∀(i:Nat) (v:V),vs[i]? = some v->(start N vs)[i]? = some (some v):=λi v h=>by
  unfold start
  have hi:=(zx.mp h).1
  rw [zS (by simpa using hi)]
  simpa using h
 have rs:RS ⟨K,F,H,cB 0 as vs⟩ (bM N as) (start N vs) F H:=by
  refine ⟨Y7,.refl _,λa o h=>.inl h,λa o h _=>h,λa h=>h,?_,λi s h=>?_,λi j s s' a hij e1 m1 e2 m2 x1 x2=>?_,λq U=>?_⟩
  ·unfold bM start
   rw [zt,zt,z9,z9,zF,zF,ar.len]
  ·obtain ⟨v,h1,h2⟩:=ar.at_ i s (J i s h)
   refine ⟨v,I i v h1,?_⟩
   cases s with
   | d x=>exact h2
   | own xs=>exact h2.elim
   | bor xs=>
    obtain ⟨a,Z,rfl,z1,z2,z3⟩:=h2
    have mm:=lG (n:=0) (J i _ h) h1
    exact ⟨a,Z,rfl,z1,⟨_,mm,rfl⟩,z2,z3⟩
  ·have f1:=J i s e1
   have f2:=J j s' e2
   obtain ⟨v1,h1,k1⟩:=ar.at_ i s f1
   obtain ⟨v2,h2,k2⟩:=ar.at_ j s' f2
   rw [I i v1 h1] at x1;cases x1
   rw [I j v2 h2] at x2;cases x2
   cases s with
   | d x=>cases m1
   | own xs=>exact k1.elim
   | bor xs=>
    cases s' with
    | d x=>cases m2
    | own xs=>exact k2.elim
    | bor ys=>exact ar.apart i j xs ys a hij f1 f2 h1 h2
  ·obtain ⟨xs,h1,h2⟩:=bsm q U
   refine ⟨I _ _ h2,xs,?_⟩
   unfold bM
   have hi:=(zx.mp h1).1
   rw [zS (by simpa using hi)]
   simpa using h1
 -- the end
 have fin:∀(r:Rt) (p1:aG) (D:St) (v:V) (F1 H1:Hp),RS ⟨K,F,H,cB 0 as vs⟩ p1 D F1 H1->Jd ⟨K,F,H,cB 0 as vs⟩ p1 D F1 H1 r v->R r (outs as p1)->Q v H1:=λr p1 D v F1 H1 B rr q=>by
  refine U r _ v F1 H1 ⟨B.ext,B.sub,B.new,λa o h n=>?_,B.grow,λi xs h=>?_,?_⟩ q
  ·refine B.keep a o h λq U z=>?_
   obtain ⟨xs,h1,h2⟩:=bsm q U
   exact n q.1 xs h1 (by rw [h2,z])
  ·obtain ⟨v,h1,k1⟩:=ar.at_ i _ h
   obtain ⟨a,Z,rfl,z1,z2,z3⟩:=k1
   have mm:=lG (n:=0) h h1
   obtain ⟨p1',ys,p2'⟩:=B.pin _ mm
   rw [Nat.zero_add] at p1' p2'
   obtain ⟨w,w1,b,us',e,y1,y2,y3,y4⟩:=B.sl i _ p2'
   rw [p1'] at w1;cases w1;cases e
   exact ⟨ys,a,us',jR h p2',h1,y1,y3,y4⟩
  ·cases r with
   | rd x=>exact rr
   | ro xs=>obtain ⟨a,Z,z1,z2,z3,z4,z5,_⟩:=rr;exact ⟨a,Z,z1,z2,z3,z4,z5⟩
 refine ⟨_,ht,bM N as,F,_,rs,tq,⟨λD H1 zq=>?_,λv H1 zq=>?_,λ_ _ ⟨_,_,_,_,z⟩=>z.elim,λ_ _ ⟨_,_,_,_,z⟩=>z.elim⟩⟩
 ·obtain ⟨p1,F1,B,s1,q⟩:=zq
  exact fin (.rd .non) p1 D .non F1 H1 B .non q
 ·obtain ⟨r,p1,D,F1,B,s1,rr,q⟩:=zq
  exact fin r p1 D v F1 H1 B rr q
theorem sy.gU {x n:Str} {st:Stmt} {f:Addr} {fd:FuncData} {N ps:List Str} {k:Nat} {S:eE} (U:sy K x n st f fd) (O:ao N ps (aa st)) (len:∀as R,S as R->as.length=ps.length)
  (B:∀(z:Value) (A:Around) (outer:List Env) (s:Shared) (H:Hp) (E:XK) (C:Pc) (as:List Sl) (R:Rt->List Sl->Prop),K=C.K->bI k (A.deeper (envOfC n (aa st) s.heap.objs.size f z))->S as R->
   ∃t,fX (d9 lB P w K mg base N n (aa st) f z A outer s H E).RB (cY st) (iw C t)/\t { nx:=λp=>R (.rd .non) (outs as p),rt:=λr p=>R r (outs as p) } (bM N as)):bO P w K mg base lB (k+1) f fd ps (Gv K S):=
 sy.Pq (S:=λ_=>S) U O (λ_=>len) λz A outer s H E C as R J _ _ D I=>B z A outer s H E C as R J D I
end
def Pc.sh (C:Pc) (k:Nat):Pc:=⟨C.K,C.F0,C.H0,C.bs.map λq=>(q.1+k,q.2)⟩
section
variable {X:Cx} {C:Pc} {a b c e:Expr} {ta tb tc:TQ} {pos:Pos} {K:PySem.W.Frag} {p:aG} {σ:St} {F H:Hp} {k:Nat}
theorem uP {α:Type} {l:List (Option α)} {i:Nat} {s:α} (h:(List.replicate k none++l)[i]? = some (some s)):∃j,i=k+j/\l[j]? = some (some s):=by
 by_cases hi:i<k
 ·rw [zS (by simpa using hi),zX,zo hi] at h
  cases h
 ·rw [yf (by simpa using xE hi),zF] at h
  exact ⟨i - k,by omega,h⟩
theorem qU {α:Type} {l:List (Option α)} {j:Nat}:(List.replicate k (none:Option α)++l)[k+j]? = l[j]?:=by
 rw [yf (by simp),zF,Nat.add_sub_cancel_left]
theorem RZ:Jc (C.sh k) F H s v ↔ Jc C F H s v:=by
 cases s with
 | d x=>exact Iff.rfl
 | own xs=>exact Iff.rfl
 | bor xs=>
  constructor
  ·rintro ⟨x,vs,h1,h2,⟨q,z,D⟩,B⟩
   obtain ⟨q',n,e⟩:=zZ.mp z
   exact ⟨x,vs,h1,h2,⟨q',n,by rw [<-D,<-e]⟩,B⟩
  ·rintro ⟨x,vs,h1,h2,⟨q,z,D⟩,B⟩
   exact ⟨x,vs,h1,h2,⟨(q.1+k,q.2),zZ.mpr ⟨q,z,rfl⟩,D⟩,B⟩
theorem RS.shift (rs:RS C p σ F H):RS (C.sh k) (List.replicate k none++p) (List.replicate k none++σ) F H:=by
 refine ⟨rs.sub,rs.ext,rs.new,λx o h n=>rs.keep x o h λq D=>n (q.1+k,q.2) (zZ.mpr ⟨q,D,rfl⟩),rs.grow,by rw [zt,zt,zF,zF,rs.len],λi s h=>?_,λi j s s' x I e1 m1 e2 Z O J=>?_,λq D=>?_⟩
 ·obtain ⟨j,rfl,h1⟩:=uP h
  obtain ⟨v,e1,r⟩:=rs.sl j s h1
  exact ⟨v,by rw [qU];exact e1,RZ.mpr r⟩
 ·obtain ⟨i',rfl,h1⟩:=uP e1
  obtain ⟨j',rfl,h2⟩:=uP e2
  rw [qU] at O J
  exact rs.apart i' j' s s' x (λz=>I (by rw [z])) h1 m1 h2 Z O J
 ·obtain ⟨q',B,e⟩:=zZ.mp D
  obtain ⟨Y,xs,U⟩:=rs.pin q' B
  subst e
  have e:q'.1+k=k+q'.1:=Nat.add_comm _ _
  exact ⟨by show (List.replicate k none++σ)[q'.1+k]? = _;rw [e,qU];exact Y,xs,by show (List.replicate k none++p)[q'.1+k]? = _;rw [e,qU];exact U⟩
theorem RS.uQ (rs:RS (C.sh k) p σ F H) (hk:k<=p.length):RS C (p.drop k) (σ.drop k) F H:=by
 refine ⟨rs.sub,rs.ext,rs.new,λx o h n=>rs.keep x o h λq D=>?_,rs.grow,by rw [yM,yM,rs.len],λi s h=>?_,λi j s s' x I e1 m1 e2 Z O J=>?_,λq D=>?_⟩
 ·obtain ⟨q',B,e⟩:=zZ.mp D
  rw [<-e];exact n q' B
 ·rw [yD] at h
  obtain ⟨v,e1,r⟩:=rs.sl _ s h
  exact ⟨v,by rw [yD];exact e1,RZ.mp r⟩
 ·rw [yD] at e1 e2 O J
  exact rs.apart _ _ s s' x (λz=>I (by omega)) e1 m1 e2 Z O J
 ·obtain ⟨Y,xs,U⟩:=rs.pin (q.1+k,q.2) (zZ.mpr ⟨q,D,rfl⟩)
  have e:q.1+k=k+q.1:=Nat.add_comm _ _
  refine ⟨?_,xs,?_⟩
  ·rw [yD,<-e];exact Y
  ·rw [yD,<-e];exact U
def XGk (C:Pc) (k:Nat) (p:aG) (B:St) (F:Hp) (R:aG->Prop) (n:St) (D:Hp):Prop:=∃z F1,RS C z n F1 D/\aM F F1/\kE p z/\n.drop k=B.drop k/\R z
def pH (C:Pc) (k:Nat) (g:pQ):TG:=λv σ H Q=>∃p F x R,RS C p σ F H/\Rep C.K F x v/\g x p R/\∀n H1,XGk C k p σ F R n H1->Q n H1
def xU (C:Pc) (k:Nat) (g:sV):N5:=λvs σ H Q=>∃p F xs R,RS C p σ F H/\aK C.K F xs vs/\g xs p R/\∀n H1,XGk C k p σ F R n H1->Q n H1
theorem QGk.mk (h:PG X tg g) (hi:∀p σ F H x v R,RS C p σ F H->Rep C.K F x v->g' x p R->g v σ H (XGk C k p σ F R)):PG X tg (pH C k g'):=λpins s σ H v u Q I r z=>by
 obtain ⟨p,F,x,R,D,B,O,J⟩:=z
 exact bh (h pins s σ H v u _ I r (hi p σ F H x v R D B O)) λ_ _ z=>by obtain ⟨n,H1,U,q1⟩:=z;exact ⟨n,H1,U,J n H1 q1⟩
theorem Y8.mk (h:ux X tgs g) (hi:∀p σ F H xs vs R,RS C p σ F H->aK C.K F xs vs->g' xs p R->g vs σ H (XGk C k p σ F R)):ux X tgs (xU C k g'):=λpins s σ H v u Q I r z=>by
 obtain ⟨p,F,x,R,D,B,O,J⟩:=z
 exact bh (h pins s σ H v u _ I r (hi p σ F H x v R D B O)) λ_ _ z=>by obtain ⟨n,H1,U,q1⟩:=z;exact ⟨n,H1,U,J n H1 q1⟩
def lH (i:Nat):pQ:=λx p Q=>d_ p i=none/\Q (p.set i (some (.d x)))
theorem dJ (O:i<k) (hN:X.N.Nodup) (hi:X.N[i]? = some x) (J:Loc X.env.scope x) (hf:X.fn x=true\/X.env.scope.names.lookup x=some .local:=by first|exact .inl rfl|exact .inr rfl|assumption):PG X (.Name x pos) (pH C k (lH i)):=
 QGk.mk (Dt hN hi J hf) λp σ F H x v R I D B=>by
  obtain ⟨n,q⟩:=B
  have U:pA p i=true:=by
   unfold pA
   unfold d_ at n
   split
   ·rename_i e;rw [e] at n;cases n
   ·rfl
  refine ⟨_,F,I.uO U D,.refl _,⟨ye,λj s e m=>?_⟩,?_,q⟩
  ·by_cases z:i=j
   ·subst z
    unfold d_ at n
    rw [e] at n
    cases s with
    | d x=>cases m
    | own xs=>cases n
    | bor xs=>cases n
   ·exact ⟨s,by rw [zz z];exact e,m⟩
  ·apply List.ext_getElem?
   intro j
   rw [yD,yD,zz (by omega)]
theorem Pr:ux X [] (xU C k xP):=Y8.mk uy λp σ F H xs vs R B z n=>by
 obtain ⟨h,q⟩:=n
 subst h;cases z
 exact ⟨rfl,p,F,B,.refl _,.refl _,rfl,q⟩
theorem xV {e:Expr} (h1:PG X e (pH C k g)) (h2:ux X es (xU C k gs))
  (hs:(assignEach (e::es) X.env).map (·.2)=assign e X.env::(assignEach es X.env).map (·.2):=by rfl):ux X (e::es) (xU C k (oF g gs)):=
 Y8.mk (wA h1 h2 hs) λp σ F H xs vs R rs Z n=>by
  obtain ⟨x,r,hx,q⟩:=n
  subst hx
  cases Z with
  | cons r1 r2=>
   refine ⟨_,_,rfl,p,F,x,_,rs,r1,q,λU H1 n=>?_⟩
   obtain ⟨p1,F1,I,J,B,d1,q1⟩:=n
   exact ⟨p1,F1,r,R,I,r2.mono J,q1,λO H2 n=>by obtain ⟨p2,F2,D,Y,z,d2,q2⟩:=n;exact ⟨p2,F2,D,J.trans Y,B.trans z,d2.trans d1,q2⟩⟩
theorem VD {D:sV} (hK:X.K=C.K) (Z:X.calm=true) (h:ux X es (xU C k D)) (U:(assignEach es X.env).length=n:=by rfl) (z:(assignEach es X.env).findIdx? (·.1)=none:=by rfl):PG X (.Tuple es k' pos) (pH C k (xQ n D)):=
 QGk.mk (DK hK Z h U z) λp σ F H x v R B J I=>by
  obtain ⟨xs,O,Y,q⟩:=I
  subst O
  cases J with
  | tup q1 r1=>exact ⟨_,_,rfl,.of (B.sub _ _ q1),by rw [<-r1.length];exact Y,p,F,xs,R,B,r1,q,λ_ _ h=>h⟩
def uR:mQ:=λp Q=>Q true p
theorem jT:vX X [] (gj C uR):=λpins s σ H Q I n=>by obtain ⟨p,F,R,z,B,D⟩:=n;exact Ou pins s σ H Q I (D true H ⟨p,F,z,.refl _,.refl _,B⟩)
theorem JP (h:PT X c (gj C tt)):vX X [c] (gj C tt):=Ov h
def uT {β:Type} (z:β) (len:β->Nat) (J:β->aG->(β->aG->Prop)->Prop) (k:Nat) (ti:sE) (g:pQ) (D:mQ) (p:aG) (Q:β->aG->Prop):Prop:=ti p λn item U=>∃I:Nat->β->aG->Prop,I 0 z (List.replicate k none++U)/\n<=100000 /\
 (∀i ys p2,i<n->I i ys p2->len ys<=i/\g (item i) p2 λO=>D O λb B=>if b=true then J ys B (I (i+1)) else I (i+1) ys B)/\∀ys p2,I n ys p2->Q ys (p2.drop k)
abbrev acs (z:TQ) (n:List D) (p:aG) (Q:List D->aG->Prop):Prop:=z p λe B=>∃y,e=.fz y/\Q (n++[y]) B
def mU (k:Nat) (ti:sE) (g:pQ) (n:mQ) (z:TQ):TN:=λp Q=>uT [] List.length (acs z) k ti g n p λys B=>Q (.ro ys) B
inductive VF (C:Pc) (k:Nat) {α β:Type} (rel:Hp->β->α->Prop) (p1:aG) (F1:Hp) (σ:St) (J:β->aG->Prop) (ys:α) (σ2:St) (H2:Hp):Prop
 | mk (p2:aG) (F2:Hp) (zs:β):RS (C.sh k) p2 σ2 F2 H2->aM F1 F2->kE (List.replicate k none++p1) p2->σ2.drop k=σ->rel F2 zs ys->J zs p2->VF C k rel p1 F1 σ J ys σ2 H2
theorem RS.block {p1 B:aG} {n:St} {O J:Hp} (D:RS (C.sh k) B n O J) (z:kE (List.replicate k none++p1) B) (Y:n.drop k=σ):RS C (B.drop k) σ O J/\kE p1 (B.drop k):=by
 have I:=z.1
 rw [zt,zF] at I
 refine ⟨Y▸D.uQ (by omega),by rw [yM,I,Nat.add_sub_cancel_left],λj s h m=>?_⟩
 obtain ⟨s',h',U⟩:=z.2 (k+j) s (by rw [qU];exact h) m
 exact ⟨s',by rw [yD];exact h',U⟩
theorem tX {α β:Type} {ho:α->HO} {len:α->Nat} {emp:α} {ta:α->St->Hp->(α->Hp->Prop)->Prop} {Y9:β} {Z:β->Nat} {tb:β->aG->(β->aG->Prop)->Prop} {ti:sE} {g:pQ} {tt:mQ} {R:β->aG->Prop} {Q:VK} (z:Hp->β->α->Prop) (mono:∀{F F' b a},aM F F'->z F b a->z F' b a) (r0:∀F,z F Y9 emp) (acu:∀{F b a},z F b a->len a=Z b)
  (add:∀{p σ F H b a} {M:α->Hp->Prop} {N:β->aG->Prop},RS (C.sh k) p σ F H->z F b a->tb b p N->(∀zs ws D F1 H1,RS (C.sh k) D σ F1 H1->aM F F1->kE p D->z F1 zs ws->N zs D->M ws H1)->ta a σ H M)
  (rs:RS C p σ F H) (ht:uT Y9 Z tb k ti g tt p R) (hq:∀A D F1 H1 zs ws,RS C D σ F1 H1->aM F F1->kE p D->H1 A=none->z F1 zs ws->R zs D->Q (.ref A) (upd H1 A (ho ws))) :
  nZ ho len emp ta k (vZ C ti) (pH (C.sh k) k g) (gj (C.sh k) tt) σ H Q:=
 ⟨p,F,_,rs,ht,λJ H1 zq=>by
  obtain ⟨n,item,D,F1,Ea,s1,Ny,jq,I,i0,hn,istep,B_⟩:=zq
  refine ⟨λi m ys σ2 H2=>m=n - i/\i<=n/\VF C k z D F1 σ (I i) ys σ2 H2,⟨n,by simp,yN _,_,F1,_,Ea.shift,.refl _,.refl _,by simp,r0 _,i0⟩,?_⟩
  rintro i m ys σ2 H2 ⟨rfl,hi,p2,F2,zs,U,s2,Nv,d2,rz,i2⟩
  by_cases B:i<n
  ·obtain ⟨hl,st⟩:=istep i zs p2 B i2
   refine .inr ⟨jq.go i F2 H2 U.sub s2 B,?_,VF C k z D F1 σ (I (i+1)),λ_ _ _ h=>⟨n - (i+1),by omega,rfl,B,h⟩,λx H' y=>?_⟩
   ·rw [acu rz];exact Nat.lt_of_le_of_lt hl (zK (zK B hn) (by decide))
   obtain ⟨F3,G_,s3,r3⟩:=JQ.out (C:=C.sh k) jq U s2 B y
   refine ⟨p2,F3,item i,_,G_,r3,st,λσ4 H4 zq=>?_⟩
   obtain ⟨p4,F4,Pn,s4,sh4,d4,q4⟩:=zq
   refine pG Pn q4 λb p5 F5 H5 Y_ s5 sh5 q5=>?_
   have O:=s3.trans (s4.trans s5)
   have Y:=Nv.trans (sh4.trans sh5)
   exact dB (λq5=>add Y_ (mono O rz) q5 λzs' ws p6 F6 H6 Za s6 sh6 r6 q6=>⟨p6,F6,zs',Za,(s2.trans O).trans s6,Y.trans sh6,d4.trans d2,r6,q6⟩) (λq5=>⟨p5,F5,zs,Y_,s2.trans O,Y,d4.trans d2,mono O rz,q5⟩) q5
  ·have e:i=n:=by omega
   subst e
   obtain ⟨G_,sh3⟩:=U.block Nv d2
   exact .inl ⟨jq.stop F2 H2 U.sub s2,λA hA=>hq A _ F2 H2 zs ys G_ (s1.trans s2) (Ny.trans sh3) hA rz (B_ zs p2 i2)⟩⟩
theorem xW {ti:sE} {g:pQ} {J:mQ} {O:TQ} {R:Rt->aG->Prop} {Q:VK} (rs:RS C p σ F H) (ht:mU k ti g J O p R) (hq:∀v H1,XN C p σ F R v H1->Q v H1) :
  Dy k (vZ C ti) (pH (C.sh k) k g) (gj (C.sh k) J) (Up (C.sh k) O) σ H Q:=
 tX (aK C.K) (λs r=>r.mono s) (λ_=>.nil) (λr=>r.length.symm) (λrs rz q k=>up1 rs q λe6 p6 v6 F6 H6 B U n I Y=>by
  obtain ⟨z,hz,q6⟩:=Y
  subst hz
  exact k _ _ p6 F6 H6 B U n ((rz.mono U).append (.cons I .nil)) q6) rs ht λA p1 F1 H1 zs ws D Z sh hA r q=>hq _ _ (fY D Z sh hA r q)
theorem lJ {n:Expr} (S:aV X scope N k) (J:X.calm=true) (hi:PI X tg iter (vZ C ti))
  (I:∀Z s H fp,PG (bu X scope N Z s H fp) tg (pH (C.sh k) k g)) (z:∀Z s H fp,vX (bu X scope N Z s H fp) ifs (gj (C.sh k) tt)) (he:∀Z s H fp,PE (bu X scope N Z s H fp) n (Up (C.sh k) te))
  (D:∀x,foldedSetIterable iter X.env x=pure x:=by intro _;rfl):PE X (.ListComp n [⟨tg,iter,ifs,0⟩] scope pos) (lD C (mU k ti g tt te)):=
 QN.mk (Ox S J hi I z he D) λp σ F H R B z=>xW B z λ_ _ h=>h
theorem Cd {n:Pos} (hN:X.N.Nodup) (O:X.N[i]? = some x) (hx:Loc X.env.scope x) (S:aV X scope N k) (hc:X.calm=true) (hi:PI X tg iter (vZ C ti))
  (hg:∀Z s H fp,PG (bu X scope N Z s H fp) tg (pH (C.sh k) k g)) (I:∀Z s H fp,vX (bu X scope N Z s H fp) ifs (gj (C.sh k) tt)) (he:∀Z s H fp,PE (bu X scope N Z s H fp) elt (Up (C.sh k) te))
  (J:swapsWith (.ListComp elt [⟨tg,iter,ifs,0⟩] scope pos2) (some (.Name x n)) pos.line X.env=pure true:=by rfl)
  (hs:∀x,foldedSetIterable iter X.env x=pure x:=by intro _;rfl) (hf:X.fn x=true\/X.env.scope.names.lookup x=some .local:=by first|exact .inl rfl|exact .inr rfl|assumption) :
  PS X (.Assign [.Name x n] (.ListComp elt [⟨tg,iter,ifs,0⟩] scope pos2) pos) (iw C (Pk i (qFz (mU k ti g tt te)))):=
 QS.mk (qz hN O hx S hc hi hg I he J hs hf) λp σ F H E rs I=>xW (R:=λr D=>∃y,Ev.fz r.val=.fz y/\pA D i=true/\E.nx (D.set i (some (.d y)))) rs I λv H1 U=>by
  obtain ⟨r,D,F1,B,s1,sh,rr,y,hy,hn,q⟩:=U
  obtain ⟨F2,z,Y,r2⟩:=rr.fz B
  cases hy
  exact ⟨_,F2,z.uO hn r2,s1.trans Y,q⟩
end
theorem Zb {α:Type} (x:α) (xs:List α):h_ (x::xs) 0=some x:=j4 (j:=0) rfl
theorem Zc {α:Type} (x y:α) (xs:List α):h_ (x::y::xs) 1=some y:=j4 (j:=1) rfl
theorem Zd {α:Type} (x y z:α) (xs:List α):h_ (x::y::z::xs) 2=some z:=j4 (j:=2) rfl
theorem Ze {α:Type} (x y z u:α) (xs:List α):h_ (x::y::z::u::xs) 3=some u:=j4 (j:=3) rfl
theorem VG:wL 2 0=some 0:=rfl
theorem VH:wL 2 1=some 1:=rfl
theorem getD_ints {ns:List Int} (h:i<ns.length):(ns.map D.int).getD i .non=.int (ns.getD i 0):=by
 rw [zj,zP,zd h,zj,zd h];rfl
theorem JR (n:Nat) (x:Int):(List.replicate n [D.int x]).flatten=(List.replicate n x).map D.int:=by
 induction n with
 | zero=>rfl
 | succ n ih=>rw [zU,x8,ih,zU];rfl
theorem mV {E:gY} {item:Nat->D} (z:∀Q:Nat->(Nat->D)->aG->Prop,Q n item p1->ti p Q) (I:Nat->aG->Prop) (h0:I 0 p1)
  (B:∀i p2,i<n->I i p2->g (item i) p2 λp3=>tb { E with nx:=I (i+1),ct:=I (i+1),bk:=E.nx } p3) (hd:∀p2,I n p2->E.nx p2):JH ti g tb E p:=z _ ⟨I,h0,B,hd⟩
theorem mW {E:gY} (I:aG->Prop) (n:aG->Nat) (h0:I p)
  (z:∀p1,I p1->c p1 λb p2=>if b=true then tb { E with nx:=λq=>I q/\n q<n p1,ct:=λq=>I q/\n q<n p1,bk:=E.nx } p2 else E.nx p2):JK c tb E p:=⟨I,n,h0,z⟩
theorem Ce {k:Nat} {item:Nat->D} (z:∀Q:Nat->(Nat->D)->aG->Prop,Q n item p1->ti p Q) (J:n<=100000) (I:Nat->List D->aG->Prop) (h0:I 0 [] (List.replicate k none++p1))
  (O:∀i ys p2,I i ys p2->ys.length<=i)
  (B:∀i ys p2,i<n->I i ys p2->g (item i) p2 λp3=>tt p3 λb p4=>if b=true then te p4 λe p5=>∃y,e=.fz y/\I (i+1) (ys++[y]) p5 else I (i+1) ys p4) (hd:∀ys p2,I n ys p2->Q (.ro ys) (p2.drop k)):mU k ti g tt te p Q:=
 z _ ⟨I,h0,J,λi ys p2 hi h=>⟨O i ys p2 h,B i ys p2 hi h⟩,hd⟩
theorem comp_map {item:Nat->D} (z:∀Q:Nat->(Nat->D)->aG->Prop,Q n item p1->ti p Q) (I:n<=100000) (f:Nat->D)
  (B:∀i (R:Ev->aG->Prop),i<n->R (.fz (f i)) (some (.d (item i))::p1)->te (some (.d (item i))::p1) R) (hd:Q (.ro ((List.range n).map f)) p1):mU 1 ti (lH 0) uR te p Q:=by
 refine Ce z I (λi ys p2=>ys=(List.range i).map f/\∃o:Option D,p2=(o.map Sl.d)::p1) ⟨rfl,none,rfl⟩ (λi ys p2 h=>by rw [h.1,z9,List.length_range];exact zC _) ?_ ?_
 ·rintro i ys p2 hi ⟨rfl,o,rfl⟩
  refine ⟨by cases o<;>rfl,?_⟩
  show uR (some (.d (item i))::p1) _
  unfold uR
  simp only [if_true]
  refine B i _ hi ⟨_,rfl,?_,some (item i),rfl⟩
  rw [List.range_succ,yp];rfl
 ·rintro ys p2 ⟨rfl,o,rfl⟩
  exact hd
theorem pB {item:Nat->D} (z:∀Q:Nat->(Nat->D)->aG->Prop,Q n item p1->ti p Q) (J:n<=100000) (t:Nat->Bool) (f:Nat->D)
  (I:∀i (R:Bool->aG->Prop),i<n->R (t i) (some (.d (item i))::p1)->tt (some (.d (item i))::p1) R)
  (he:∀i (R:Ev->aG->Prop),i<n->t i=true->R (.fz (f i)) (some (.d (item i))::p1)->te (some (.d (item i))::p1) R) (hd:Q (.ro (((List.range n).filter t).map f)) p1):mU 1 ti (lH 0) tt te p Q:=by
 refine Ce z J (λi ys p2=>ys=((List.range i).filter t).map f/\∃o:Option D,p2=(o.map Sl.d)::p1) ⟨rfl,none,rfl⟩ (λi ys p2 h=>by
  rw [h.1,z9]
  exact yi (List.length_filter_le _ _) (by rw [List.length_range];exact zC _)) ?_ ?_
 ·rintro i ys p2 hi ⟨rfl,o,rfl⟩
  refine ⟨by cases o<;>rfl,?_⟩
  show tt (some (.d (item i))::p1) _
  refine I i _ hi ?_
  cases B:t i with
  | true=>
   rw [zo rfl]
   refine he i _ hi B ⟨_,rfl,?_,some (item i),rfl⟩
   rw [List.range_succ,List.filter_append,yp]
   simp [B]
  | false=>
   rw [zi yg]
   refine ⟨?_,some (item i),rfl⟩
   rw [List.range_succ,List.filter_append]
   simp [B]
 ·rintro ys p2 ⟨rfl,o,rfl⟩
  exact hd
end L2
namespace L2
open PySem
section
variable {o:Option Sl} {p:aG} {i:Nat} {x:D} {xs ys:List D} {u:Option D}
theorem acw:pA (o::p) (i+1)=pA p i:=rfl
theorem acy:pA (none::p) 0=true:=rfl
theorem acz:pA (some (.d x)::p) 0=true:=rfl
theorem acA:pA (some (.own xs)::p) 0=true:=rfl
theorem acB:pA (Option.map Sl.d u::p) 0=true:=by cases u<;>rfl
theorem acC:d_ (o::p) (i+1)=d_ p i:=rfl
theorem acD:d_ (none::p) 0=none:=rfl
theorem acE:d_ (some (.d x)::p) 0=none:=rfl
theorem acF:d_ (some (.own xs)::p) 0=some xs:=rfl
theorem acG:d_ (some (.bor xs)::p) 0=some xs:=rfl
theorem acH:d_ (Option.map Sl.d u::p) 0=none:=by cases u<;>rfl
theorem acI:putL (o::p) (i+1) ys=o::putL p i ys:=by
 unfold putL
 rw [List.getElem?_cons_succ]
 cases h:p[i]? with
 | none=>rfl
 | some s=>cases s<;>rfl
theorem acJ {s:Sl}:putL (some s::p) 0 ys=some (s.put ys)::p:=rfl
end
theorem xX (I:aG->Prop) (h:∀k:aG->Prop,(∀p',I p'->k p')->t { E with nx:=k } p) (n:∀p',I p'->R E p'):xO t R E p:=h (R E) n
theorem cj (h:t { E with nx:=R E } p):xO t R E p:=h
theorem Pu {α:Type} (xs:List α) (h:xs≠[]):∃ys y,xs=ys++[y]:=⟨xs.dropLast,xs.getLast h,(yP h).symm⟩
theorem R0 {E:gY} (h:ti p λn item p1=>∃I:Nat->aG->Prop,I 0 p1/\(∀i p2,i<n->I i p2->g (item i) p2 λp3=>tb { E with nx:=I (i+1),ct:=I (i+1),bk:=E.nx } p3)/\∀p2,I n p2->E.nx p2):JH ti g tb E p:=h
end L2
namespace L2
open PySem PySem.Spec PyProof.Rows
section
variable {X:Cx} {C:Pc} {a b c e:Expr} {ta tb tc:TQ} {cz:TAQ} {pos ps:Pos}
def JS (z n:TQ):TQ:=λp Q=>z p λe1 B=>n B λe2 p2=>∃x y,lk p2 e1=.str x/\lk p2 e2=.str y/\x.length+y.length<=100000/\Q (.fz (.str (x++y))) p2
theorem aZ (Z:PE X a (Up C ta)) (Y:PE X b (Up C tb)):PE X (.BinOp a .Add b pos) (Up C (JS ta tb)):=
 QE.mk (tu Bj Z Y) λp σ F H R J U=>tV J U λe1 e2 p1 v1 v2 F1 H1 n I sh B z D=>by obtain ⟨x,y,h1,h2,O,q⟩:=D;exact ⟨x,y,cu B h1,cu z h2,jj O,aY n I sh (.str _) q⟩
theorem Cg:g8 X (binaryOp .Mult) (λx y H Q=>∃z n,x=.str z/\y=.int n/\MulOk z n/\Q (.str (Txt.mul z n)) H):=by
 intro pins s σ H x y v u Q I J D h
 obtain ⟨z,n,rfl,rfl,O,q⟩:=h
 obtain ⟨t,rfl⟩:=J
 obtain ⟨U,rfl⟩:=D
 exact SB.mul O λB k=>⟨.str _,H,I.tok _,⟨_,rfl⟩,q⟩
def JT (B z:TQ):TQ:=λp Q=>B p λe1 D=>z D λe2 p2=>∃x n,lk p2 e1=.str x/\lk p2 e2=.int n/\MulOk x n/\Q (.fz (.str (Txt.mul x n))) p2
theorem JV (ha:PE X a (Up C ta)) (Z:PE X b (Up C tb)):PE X (.BinOp a .Mult b pos) (Up C (JT ta tb)):=
 QE.mk (tu Cg ha Z) λp σ F H R O Y=>tV O Y λe1 e2 p1 v1 v2 F1 H1 z J sh D B I=>by obtain ⟨x,n,h1,h2,U,q⟩:=I;exact ⟨x,n,cu D h1,aP B h2,U,aY z J sh (.str _) q⟩
theorem Gw:gn X (.type "int") (λxs H Q=>∃x n,xs=[.str x]/\intText? x=some n/\x.length<=640/\Q (.int n) H):=by
 intro pins s σ H xs B Q I r h
 obtain ⟨x,n,rfl,h1,h2,q⟩:=h
 obtain ⟨u,rfl,z⟩:=vals1 r
 obtain ⟨t,rfl⟩:=z
 exact PySem.W.KIN.call_text h1 h2 ⟨.int n,H,I.tok _,⟨_,rfl⟩,q⟩
def JW (B:TAQ):TQ:=λp Q=>B p λes z=>∃e x n,es=[e]/\lk z e=.str x/\intText? x=some n/\x.length<=640/\Q (.fz (.int n)) z
theorem gf (Z:Gl X "int") (Y:X.mg "int"=none) (ha:PA X [e] (gA C cz)) (he:starEach [e] X.env=(false,eval e X.env)::starEach [] X.env:=by rfl):PE X (.Call (.Name "int" ps) [e] [] pos) (Up C (JW cz)):=
 QE.mk (nR Gw Z Y (by kernel_rfl) ha (he:=he)) λp σ F H R O U=>dz O U λes1 p1 I F1 H1 z J sh B D=>by
  obtain ⟨e1,x,n,h1,h2,h3,h4,q⟩:=D
  obtain ⟨v,rfl,er⟩:=oA B h1
  exact ⟨x,n,by rw [cu er h2],h3,h4,aY z J sh (.int _) q⟩
end
mutual
def toP:D->PyData
 | .non=>.none
 | .bl b=>.bool b
 | .int i=>.int i
 | .str x=>.str x
 | .lst xs=>.list (toPs xs)
 | .tup xs=>.tuple (toPs xs)
 | .atom _=>.none
 | .vY ns=>.list (ns.map PyData.int)
 | .sO _ _=>.none
 | .exc _=>.none
def toPs:List D->List PyData
 | []=>[]
 | x::xs=>toP x::toPs xs
end
mutual
def plain:D->Bool
 | .atom _=>false
 | .sO _ _=>false
 | .exc _=>false
 | .lst xs=>lK xs
 | .tup xs=>lK xs
 | _=>true
def lK:List D->Bool
 | []=>true
 | x::xs=>plain x && lK xs
end
theorem qW:∀{ns:List Int} {z:List Value},Vals (ns.map V.int) z->∃as,ReadsAll h z (ns.map PyData.int) as
 | [],_,r=>by cases r;exact ⟨_,.nil⟩
 | n::ns,_,r=>by
  cases r with
  | cons h1 t=>
   obtain ⟨tk,rfl⟩:=h1
   obtain ⟨as,B⟩:=qW (ns:=ns) t
   exact ⟨_,.cons (.int _ _) B⟩
section
variable {X:Cx} {pins:List (Addr × Obj)} {s:Shared} {σ:St} {H F:Hp}
theorem lM {h:Heap} {z:List Value} (pl:h.IsList a z.toArray) (B:ReadsAll h z xs as):Reads h (.ref a) (.list xs) (a::as):=by
 obtain ⟨o,h1,h2,n,D⟩:=pl
 exact .list h1 h2 D B
theorem Gx {z:List Value} (pl:IsTup h a z.toArray) (B:ReadsAll h z xs as):Reads h (.ref a) (.tuple xs) as:=by
 obtain ⟨o,h1,h2,n,D⟩:=pl
 exact .tuple h1 h2 D B
mutual
theorem xY (I:Inv X pins σ H s) (sm:aM F H):∀{d:D} {v:V} {u:Value},Rep X.K F d v->plain d=true->RelV v u->∃as,Reads s.heap u (toP d) as
 | _,_,_,.non,_,r=>by cases r;exact ⟨_,.none⟩
 | _,_,_,.bl b,_,r=>by cases r;exact ⟨_,.bool b⟩
 | _,_,_,.int i,_,r=>by obtain ⟨t,rfl⟩:=r;exact ⟨_,.int i t⟩
 | _,_,_,.str x,_,r=>by obtain ⟨t,rfl⟩:=r;exact ⟨_,.str x t⟩
 | _,_,_,.atom v,hp,_=>by simp [plain] at hp
 | _,_,_,.sO _ _ _,hp,_=>by simp [plain] at hp
 | _,_,_,.exc _,hp,_=>by simp [plain] at hp
 | _,_,_,.lst q rl,hp,r=>by
  cases r
  obtain ⟨B,n,pl,_⟩:=I.list (.of (sm _ _ q))
  obtain ⟨as,z⟩:=j7 I sm rl (by simpa only [plain] using hp) n
  exact ⟨_,lM pl.isList z⟩
 | _,_,_,.tup q rl,hp,r=>by
  cases r
  obtain ⟨B,n,pl,_⟩:=I.tuple (.inl (.inl (sm _ _ q)))
  obtain ⟨as,z⟩:=j7 I sm rl (by simpa only [plain] using hp) n
  exact ⟨_,Gx pl z⟩
 | _,_,_,.vY q,_,r=>by
  cases r
  obtain ⟨B,n,pl,_⟩:=I.list (sm.seq q)
  obtain ⟨as,z⟩:=qW (h:=s.heap) n
  exact ⟨_,lM pl.isList z⟩
theorem j7 (I:Inv X pins σ H s) (sm:aM F H):∀{ds:List D} {vs:List V} {z:List Value},aK X.K F ds vs->lK ds=true->Vals vs z->∃as,ReadsAll s.heap z (toPs ds) as
 | _,_,_,.nil,_,r=>by cases r;exact ⟨_,.nil⟩
 | _,_,_,.cons q rl,hp,r=>by
  cases r with
  | cons h1 t=>
   have n:=hp
   simp only [lK,yx] at n
   obtain ⟨as,J⟩:=xY I sm q n.1 h1
   obtain ⟨bs,B⟩:=j7 I sm rl n.2 t
   exact ⟨_,.cons J B⟩
end
end
def Zf (K:PySem.W.Frag) (H:Hp) (d:D) (v:V):Prop:=∃F,aM F H/\(Rep K F d v\/∃(a:Addr) (vs:List V) (ds:List D),v=.ref a/\d=.lst ds/\H a=some (.lst vs)/\aK K F ds vs)
section
variable {X:Cx} {C:Pc} {pins:List (Addr × Obj)} {s:Shared} {σ:St} {H F:Hp}
theorem Zf.reads (h:Zf X.K H d v) (I:Inv X pins σ H s) (n:plain d=true) (r:RelV v u):∃as,Reads s.heap u (toP d) as:=by
 obtain ⟨F,sm,h|⟨a,vs,ds,rfl,rfl,q,B⟩⟩:=h
 ·exact xY I sm h n r
 ·cases r
  obtain ⟨J,z,pl,_⟩:=I.list (.of q)
  obtain ⟨as,D⟩:=j7 I sm B (by simpa only [plain] using n) z
  exact ⟨_,by simp only [toP];exact lM pl.isList D⟩
theorem tY (rs:RS C p σ F H) (z:kI C.K p σ F e v):Zf C.K H (lk p e) v:=by
 cases e with
 | fz x=>exact ⟨F,rs.sub,.inl z⟩
 | ow i=>
  obtain ⟨⟨s,h1,m⟩,h2⟩:=z
  obtain ⟨w,e1,sr⟩:=rs.sl i s h1
  rw [h2] at e1;cases e1
  have B:lk p (.ow i)=s.val:=by show (match p[i]? with|some (some s)=>s.val|_=>.non)=_;rw [h1]
  rw [B]
  cases s with
  | d x=>cases m
  | own xs=>obtain ⟨a,vs,rfl,_,_,q,n⟩:=sr;exact ⟨F,rs.sub,.inr ⟨a,vs,xs,rfl,rfl,q,n⟩⟩
  | bor xs=>obtain ⟨a,vs,rfl,_,_,q,n⟩:=sr;exact ⟨F,rs.sub,.inr ⟨a,vs,xs,rfl,rfl,q,n⟩⟩
end
structure oG (d:D):Prop where
 pl:plain d=true
 ly:(toP d).canLay0=true
 dp:(toP d).depth<=30
def oH (x y:D):Bool:=PyData.eqv (toP x) (toP y)
section
variable {X:Cx} {C:Pc} {a b c e:Expr} {ta tb:TQ} {pos ps:Pos} {K:PySem.W.Frag}
def Px (K:PySem.W.Frag) (f:Bool->Bool):R2:=λx y H Q=>∃dx n,Zf K H dx x/\Zf K H n y/\oG dx/\oG n/\Q (.bl (f (oH dx n))) H
theorem VJ (U:X.A.units+64<cLine):g8 X (compareOp .Eq) (Px X.K λk=>k):=by
 intro pins s σ H x y v u Q I D B h
 obtain ⟨dx,Y,h1,h2,n,z,q⟩:=h
 obtain ⟨as,O⟩:=h1.reads I n.pl D
 obtain ⟨bs,J⟩:=h2.reads I z.pl B
 exact SeqAt.compareEq_reads O J n.ly z.ly (by have:=n.dp;omega) ⟨.bl _,H,I,rfl,q⟩
theorem VL (U:X.A.units+64<cLine):g8 X (compareOp .NotEq) (Px X.K λk=>!k):=by
 intro pins s σ H x y v u Q I D B h
 obtain ⟨dx,Y,h1,h2,n,z,q⟩:=h
 obtain ⟨as,O⟩:=h1.reads I n.pl D
 obtain ⟨bs,J⟩:=h2.reads I z.pl B
 exact SeqAt.compareNe_reads O J n.ly z.ly (by have:=n.dp;omega) ⟨.bl _,H,I,rfl,q⟩
theorem Py (h:X.K=K) (n:X.A.units+64<cLine):g8 X (compareOp .Eq) (Px K λk=>k):=by subst h;exact VJ n
theorem Eb (h:X.K=K) (n:X.A.units+64<cLine):g8 X (compareOp .NotEq) (Px K λk=>!k):=by subst h;exact VL n
def Pz (f:Bool->Bool) (z n:TQ):TQ:=λp Q=>z p λe1 B=>n B λe2 p2=>oG (lk p2 e1)/\oG (lk p2 e2)/\Q (.fz (.bl (f (oH (lk p2 e1) (lk p2 e2))))) p2
theorem JX (hK:X.K=C.K) (Y:X.A.units+64<cLine) (ha:PE X a (Up C ta)) (hb:PE X b (Up C tb)):PE X (.Compare a [.Eq] [b] pos) (Up C (Pz (λk=>k) ta tb)):=
 QE.mk (pL (Py hK Y) ha hb (fO _)) λp σ F H R J Z=>tV J Z λe1 e2 p1 v1 v2 F1 H1 n I sh B z D=>by obtain ⟨U,O,q⟩:=D;exact ⟨_,_,tY n B,tY n z,U,O,aY n I sh (.bl _) q⟩
theorem Ec (hK:X.K=C.K) (Z:X.A.units+64<cLine) (ha:PE X a (Up C ta)) (hb:PE X b (Up C tb)):PT X (.Compare a [.NotEq] [b] pos) (gj C (fW (Pz (λk=>!k) ta tb))):=
 QT.mk (jg (Eb hK Z) ha hb (fO _)) λp σ F H R J ht=>tV J ht λe1 e2 O v1 v2 F1 H1 n I sh B z D=>by obtain ⟨Y,U,k,hk,q⟩:=D;exact ⟨_,_,tY n B,tY n z,Y,U,k,by cases hk;rfl,O,F1,n,I,sh,q⟩
end
section
variable {X:Cx} {C:Pc} {a b c e:Expr} {ta tb tc:TQ} {cz:TAQ} {pos ps ps2:Pos} {K:PySem.W.Frag} {p:aG} {σ:St} {F H:Hp}
theorem VM {vs:List V} {ds:List D} (h:F x=some (.lst vs)) (r:aK K F ds vs):JQ K (Itv K x vs.length) ds.length (λi=>ds.getD (ds.length - 1 - i) .non) F:=by
 have sq:∀{F1 H:Hp},aM F1 H->aM F F1->iI K H x vs:=λn s=>.of (n _ _ (s _ _ h))
 have z:=r.length
 refine ⟨λi F1 H n s hi=>?_,λi F1 H v H' n s hi y=>?_,λF1 H n s=>?_⟩
 ·obtain ⟨v,e1,_⟩:=r.get (getD_some (show ds.length - 1 - i<ds.length by omega))
  exact ⟨vs,v,sq n s,rfl,by omega,by rw [<-z];exact e1⟩
 ·obtain ⟨e1,e2⟩:=y
  subst e1
  obtain ⟨w,I,B⟩:=r.get (getD_some (show ds.length - 1 - i<ds.length by omega))
  have:=e2 vs (sq n s)
  rw [<-z,I] at this;cases this
  exact .inl ⟨rfl,B.mono s⟩
 ·show vs.length=ds.length
  omega
def iqV (n:TAQ):sE:=λp Q=>n p λes z=>∃e ds,es=[e]/\e=.fz (.lst ds)/\Q ds.length (λi=>ds.getD (ds.length - 1 - i) .non) z
theorem R3 (hK:X.K=C.K) (hg:Gl X "reversed") (Z:X.mg "reversed"=none) (ha:PA X [a] (gA C cz)) (Y:starEach [a] X.env=[(false,eval a X.env)]:=by rfl):PI X tg (.Call (.Name "reversed" ps) [a] [] pos) (vZ C (iqV cz)):=
 QI.mk (O1 hK hg Z ha Y) λp σ F H R J U=>dz J U λes1 O D F1 H1 n I sh z B=>by
  obtain ⟨e1,ds,h0,h1,q⟩:=B
  obtain ⟨v,rfl,er⟩:=oA z h0
  subst h1
  cases er with
  | lst q1 r1=>exact ⟨_,_,rfl,.of (n.sub _ _ q1),_,_,O,F1,n,I,sh,VM q1 r1,q⟩
def qX (k:Key) (ks:List Key):Bool:=ks.any λx=>decide (x=k)
theorem qY {k:Key}:qX k ks=true ↔ k∈ks:=by
 unfold qX
 rw [List.any_eq_true]
 constructor
 ·rintro ⟨x,h1,h2⟩;have:=xm h2;subst this;exact h1
 ·intro h;exact ⟨k,h,zW rfl⟩
theorem qZ {k:Key}:∀{ks:List Key} {vs:List V},ks.length=vs.length->(oh (ks.zip vs) k).isSome=qX k ks
 | [],[],_=>by simp [Im,qX]
 | x::ks,v::vs,h=>by
  have n:=qZ (k:=k) (ks:=ks) (vs:=vs) (by simpa using h)
  rw [List.zip_cons_cons]
  unfold qX at n ⊢
  rw [List.any_cons]
  by_cases e:x=k
  ·rw [qF (p:=(x,v)) e,zW e];rfl
  ·rw [qG (p:=(x,v)) e,n,zQ e,Bool.false_or]
 | [],_::_,h=>by simp at h
 | _::_,[],h=>by simp at h
def uU (f:Bool->Bool) (B z:TQ):TQ:=λp Q=>B p λe1 D=>z D λe2 p2=>∃i n ds,lk p2 e1=.int i/\lk p2 e2=.sO n ds/\Q (.fz (.bl (f (qX (Sum.inl i) n)))) p2
theorem Ed {R:Ev->aG->Prop} {G:V->Hp->Prop} (rs:RS C p σ F H) (U:ta p λe1 n=>tb n λe2 p2=>∃i B ds,lk p2 e1=.int i/\lk p2 e2=.sO B ds/\R (.fz (.bl (qX (Sum.inl i) B))) p2)
  (k:∀(b:Bool) n F1 H1,RS C n σ F1 H1->aM F F1->kE p n->R (.fz (.bl b)) n->G (.bl b) H1):YK (Up C ta) (Up C tb) σ H G:=
 tV rs U λe1 e2 n Z Y F1 H1 z O sh I D J=>by
  obtain ⟨i,B,ds,h1,h2,q⟩:=J
  obtain ⟨a1,vs,rfl,g,l,r⟩:=Jg z D h2
  rw [aP I h1]
  refine ⟨a1,_,rfl,Ip.k (k:=Sum.inl i) g,?_⟩
  rw [qZ l]
  exact k _ n F1 H1 z O sh q
theorem abd (Y:X.A.units+64<cLine) (O:PE X a (Up C ta)) (J:PE X b (Up C tb)) (I:behindInMarks .In b=false:=by rfl):PE X (.Compare a [.In] [b] pos) (Up C (uU (λk=>k) ta tb)):=
 QE.mk (Tv (Ir (by omega) O J) I) λp σ F H R B D=>Ed B D λb U F1 H1 n z sh q=>aY n z sh (.bl _) q
theorem PB (hu:X.A.units+64<cLine) (Z:PE X a (Up C ta)) (Y:PE X b (Up C tb)) (O:behindInMarks .In b=false:=by rfl):PT X (.Compare a [.In] [b] pos) (gj C (fW (uU (λk=>k) ta tb))):=
 QT.mk (Be (Ir (by omega) Z Y) O) λp σ F H R I J=>Ed (R:=λe n=>∃b,lk n e=.bl b/\R b n) I J λb n F1 H1 z D sh B=>by obtain ⟨k,U,q⟩:=B;exact ⟨k,by cases U;rfl,n,F1,z,D,sh,q⟩
theorem JZ {k:Key} {ks:List Key} {vs:List V} (l:ks.length=vs.length) (h:k ∉ ks):putK (ks.zip vs) k v=(ks++[k]).zip (vs++[v]):=by
 rw [Io,List.zip_append l]
 ·rfl
 ·have:=qZ (k:=k) l
  have hf:qX k ks=false:=by
   cases z:qX k ks with
   | false=>rfl
   | true=>exact absurd (qY.mp z) h
  rw [hf] at this
  cases q:oh (ks.zip vs) k with
  | none=>rfl
  | some x=>rw [q] at this;cases this
abbrev acL (I B:TQ) (b:List Key × List D) (p:aG) (Q:List Key × List D->aG->Prop):Prop:=I p λe J=>B J λO z=>∃(y:D) (n:Int),lk z e=.int n/\O=.fz y/\Sum.inl n ∉ b.1/\Q (b.1++[Sum.inl n],b.2++[y]) z
def J0 (i k:Nat) (ti:sE) (g:pQ) (B:mQ) (D z:TQ):iu:=λE p=>uT ([],[]) (λb=>b.1.length) (acL D z) k ti g B p λb n=>pA n i=true/\E.nx (n.set i (some (.d (.sO b.1 b.2))))
theorem PJ {k:Nat} {n:Expr} (hN:X.N.Nodup) (hi':X.N[i]? = some x) (hx:Loc X.env.scope x) (S:aV X scope N k) (hc:X.calm=true) (hi:PI X tg n (vZ C ti))
  (hg:∀Z s H fp,PG (bu X scope N Z s H fp) tg (pH (C.sh k) k g)) (ht:∀Z s H fp,vX (bu X scope N Z s H fp) ifs (gj (C.sh k) tt)) (hk:∀Z s H fp,PE (bu X scope N Z s H fp) kx (Up (C.sh k) tk)) (hv:∀Z s H fp,PE (bu X scope N Z s H fp) vx (Up (C.sh k) tv))
  (hsw:swapsWith (.DictComp kx vx [⟨tg,n,ifs,0⟩] scope pos2) (some (.Name x pos')) pos.line X.env=pure true:=by rfl)
  (hs:∀x,foldedSetIterable n X.env x=pure x:=by intro _;rfl) (hf:X.fn x=true\/X.env.scope.names.lookup x=some .local:=by first|exact .inl rfl|exact .inr rfl|assumption) :
  PS X (.Assign [.Name x pos'] (.DictComp kx vx [⟨tg,n,ifs,0⟩] scope pos2) pos) (iw C (J0 i k ti g tt tk tv)):=
 QS.mk (wW hN hi' hx S hc hi hg ht hk hv hsw hs hf) λp σ F H E rs ht=>show nZ HO.dK List.length [] (UL (Up (C.sh k) tk) (Up (C.sh k) tv)) k _ _ _ σ H (λv H1=>(E.dn C F).nx (σ.set i (some v)) H1) from tX (λF (b:List Key × List D) (a:List (Key × V))=>∃vs,a=b.1.zip vs/\b.1.length=vs.length/\aK C.K F b.2 vs) (λs r=>by obtain ⟨vs,h1,h2,h3⟩:=r;exact ⟨vs,h1,h2,h3.mono s⟩) (λ_=>⟨[],rfl,rfl,.nil⟩)
  (λr=>by obtain ⟨vs,rfl,h2,_⟩:=r;rw [List.length_zip,<-h2,Nat.min_self]) (λrs I q k=>up1 rs q λe6 p6 v6 F6 H6 Za s6 U er6 q6=>up1 Za q6 λe7 p7 v7 F7 H7 rs7 Y B er7 zq=>by
   obtain ⟨z,kk,hkk,hz,O,q7⟩:=zq
   subst hz
   obtain ⟨vs,rfl,l,I⟩:=I
   exact ⟨Sum.inl kk,aP (er6.mono Y B) hkk,k _ _ p7 F7 H7 rs7 (s6.trans Y) (U.trans B) ⟨vs++[v7],JZ l O,by rw [zt,zt,l];rfl,(I.mono (s6.trans Y)).append (.cons er7 .nil)⟩ q7⟩) rs ht λA p1 F1 H1 zs ws J s1 sh hA r q=>by
   obtain ⟨vs,rfl,l,I⟩:=r
   obtain ⟨z1,_⟩:=J.free hA
   exact ⟨_,_,(J.put (a:=A) (o:=.dK (zs.1.zip vs)) hA).uO q.1 (.sO aN l (I.mono (cP z1 _))),s1.trans (cP z1 _),q.2⟩
end
end L2
namespace L2
open PySem
theorem Zg {a:Sl} {P:Sl->Prop}:(∃s,some (some a)=some (some s)/\P s)=P a:=propext ⟨λn=>by obtain ⟨s,e,h⟩:=n;cases e;exact h,λh=>⟨a,rfl,h⟩⟩
theorem VN {a:Int} {P:Int->Prop}:(∃i,D.int a=D.int i/\P i)=P a:=propext ⟨λn=>by obtain ⟨s,e,h⟩:=n;cases e;exact h,λh=>⟨a,rfl,h⟩⟩
theorem PK {a b:Int} {P:Int->Int->Prop}:(∃i j,D.int a=D.int i/\D.int b=D.int j/\P i j)=P a b:=propext ⟨λn=>by obtain ⟨s,t,e,z,h⟩:=n;cases e;cases z;exact h,λh=>⟨a,b,rfl,rfl,h⟩⟩
theorem Zh {a:Bool} {P:Bool->Prop}:(∃i,D.bl a=D.bl i/\P i)=P a:=propext ⟨λn=>by obtain ⟨s,e,h⟩:=n;cases e;exact h,λh=>⟨a,rfl,h⟩⟩
theorem Zi {a:D} {P:D->Prop}:(∃i,Ev.fz a=Ev.fz i/\P i)=P a:=propext ⟨λn=>by obtain ⟨s,e,h⟩:=n;cases e;exact h,λh=>⟨a,rfl,h⟩⟩
theorem VP {a:List D} {P:List D->Prop}:(∃i,Ev.fz (D.lst a)=Ev.fz (D.lst i)/\P i)=P a:=propext ⟨λn=>by obtain ⟨s,e,h⟩:=n;cases e;exact h,λh=>⟨a,rfl,h⟩⟩
theorem PL {α:Type} {a:α} {P:α->Prop}:(∃i,some a=some i/\P i)=P a:=propext ⟨λn=>by obtain ⟨s,e,h⟩:=n;cases e;exact h,λh=>⟨a,rfl,h⟩⟩
theorem VR {a:List D} {P:List D->Prop}:(∃i,D.lst a=D.lst i/\P i)=P a:=propext ⟨λn=>by obtain ⟨s,e,h⟩:=n;cases e;exact h,λh=>⟨a,rfl,h⟩⟩
theorem VV {a:List D} {P:List D->Prop}:(∃i,some (some (Sl.own a))=some (some (Sl.own i))/\P i)=P a:=propext ⟨λn=>by obtain ⟨s,e,h⟩:=n;cases e;exact h,λh=>⟨a,rfl,h⟩⟩
theorem V0 {a:List D} {P:List D->Prop}:(∃i,D.tup a=D.tup i/\P i)=P a:=propext ⟨λn=>by obtain ⟨s,e,h⟩:=n;cases e;exact h,λh=>⟨a,rfl,h⟩⟩
theorem Zj {α:Sort _} {a:Ev} {P:Ev->α->Prop}:(∃e x,[a]=[e]/\P e x)=∃x,P a x:=propext ⟨λn=>by obtain ⟨s,x,e,h⟩:=n;cases e;exact ⟨x,h⟩,λ⟨x,h⟩=>⟨a,x,rfl,h⟩⟩
theorem V1 {α:Type} {P:Prop}:(a=a/\P)=P:=by simp
end L2
namespace L2
open PySem PySem.Spec PyProof.Rows
section
variable {X:Cx} {C:Pc} {a b c e o:Expr} {ta tb to:TQ} {cz:TAQ} {pos ps ps2 apos:Pos} {K:PySem.W.Frag} {F:Hp} {tg:Expr}
theorem aK.strs:∀{ts:List Str} {vs:List V},aK K F (ts.map D.str) vs->vs=ts.map V.str
 | [],_,.nil=>rfl
 | _::r,_,.cons q t=>by
  cases q
  rw [yq,aK.strs (ts:=r) t]
theorem aK.Ef:∀(ts:List Str),aK K F (ts.map D.str) (ts.map V.str)
 | []=>.nil
 | t::r=>.cons (.str t) (aK.Ef r)
def J6 (z:TAQ):TQ:=λp Q=>z p λes n=>∃e i,es=[e]/\lk n e=.int i/\i.natAbs.log2<1920/\Q (.fz (.str (toString i))) n
theorem aH (Y:Gl X "str") (U:X.mg "str"=none) (Z:PA X [e] (gA C cz)) (he:starEach [e] X.env=(false,eval e X.env)::starEach [] X.env:=by rfl):PE X (.Call (.Name "str" ps) [e] [] pos) (Up C (J6 cz)):=
 QE.mk (nR uz Y U (by kernel_rfl) Z (he:=he)) λp σ F H R J O=>dz J O λes1 p1 D F1 H1 n I sh z B=>by
  obtain ⟨e1,i,h1,h2,h3,q⟩:=B
  obtain ⟨v,rfl,er⟩:=oA z h1
  exact ⟨i,by rw [aP er h2],h3,aY n I sh (.str _) q⟩
def J7 (B:TAQ):TQ:=λp Q=>B p λes n=>∃e z,es=[e]/\lk n e=.str z/\z.length<=100000/\Q (.fz (.int z.length)) n
theorem Eg (Z:Gl X "len") (Y:X.mg "len"=none) (ha:PA X [e] (gA C cz)) (he:starEach [e] X.env=(false,eval e X.env)::starEach [] X.env:=by rfl):PE X (.Call (.Name "len" ps) [e] [] pos) (Up C (J7 cz)):=
 QE.mk (fj uF Z Y PySem.boot_len ha (he:=he)) λp σ F H R O U=>dz O U λes1 p1 I F1 H1 n J sh B D=>by
  obtain ⟨e1,z,h1,h2,h3,q⟩:=D
  obtain ⟨v,rfl,er⟩:=oA B h1
  exact ⟨z,by rw [cu er h2],jj h3,aY n J sh (.int _) q⟩
def Zk (x y:Str):Bool:=!(Builtin.Str.occurrences y x 0 y.length 1).isEmpty
def V2 (f:Bool->Bool) (z n:TQ):TQ:=λp Q=>z p λe1 B=>n B λe2 p2=>∃x y,lk p2 e1=.str x/\lk p2 e2=.str y/\Q (.fz (.bl (f (Zk x y)))) p2
theorem J8 (ha:PE X a (Up C ta)) (hb:PE X b (Up C tb)) (Y:behindInMarks .NotIn b=false:=by rfl):PT X (.Compare a [.NotIn] [b] pos) (gj C (fW (V2 (λk=>!k) ta tb))):=
 QT.mk (jg uD ha hb Y) λp σ F H R J U=>tV J U λe1 e2 O v1 v2 F1 H1 n I sh B z D=>by obtain ⟨x,y,h1,h2,k,Z,q⟩:=D;exact ⟨x,y,cu B h1,cu z h2,k,by cases Z;rfl,O,F1,n,I,sh,q⟩
def V3 (B n:TQ):TQ:=λp Q=>B p λe1 D=>n D λe2 p2=>∃z k c,lk p2 e1=.str z/\lk p2 e2=.int k/\z.length<=100000/\h_ z.cps.toList k=some c/\Q (.fz (.str ⟨#[c]⟩)) p2
theorem Zm (ha:PE X a (Up C ta)) (Z:PE X b (Up C tb)) (Y:mK b):PE X (.Subscript a b pos) (Up C (V3 ta tb)):=
 QE.mk (HX Ut ha Z Y) λp σ F H R O U=>tV O U λe1 e2 p1 v1 v2 F1 H1 n J sh D B I=>by
  obtain ⟨z,k,c,h1,h2,h3,h4,q⟩:=I
  rw [cu D h1,aP B h2]
  exact ⟨z,k,c,rfl,rfl,jj h3,h4,aY n J sh (.str _) q⟩
def J9 (B:TQ) (I:TAQ):TQ:=λp Q=>B p λe1 n=>(∃z,lk n e1=.str z)/\I n λes p2=>∃(e2:Ev) (z:Str) (ts:List Str),es=[e2]/\lk p2 e1=.str z/\lk p2 e2=.lst (ts.map D.str)/\JoinOk z ts=true/\Q (.fz (.str (Txt.join z ts))) p2
theorem Ci (hK:X.K=C.K) (ho:PE X o (Up C to)) (ha:PA X [e] (gA C cz))
  (B:attributeBase o "join" X.env (eval o X.env)=eval o X.env:=by rfl)
  (O:((backTo pos (starEach [e] X.env)).all (λx=>!x.1) && (backToKw pos (keywordEach [] X.env)).all (λx=>x.1.isSome)
   && decide ([e].length+([]:List Keyword).length+(if ([]:List Keyword).isEmpty then 0 else 1)<30))=true:=by rfl)
  (n:(apos.endLine == pos.line)=true:=by rfl) (hs:starEach [e] X.env=(false,eval e X.env)::starEach [] X.env:=by rfl):PE X (.Call (.Attribute o "join" apos) [e] [] pos) (Up C (J9 to cz)):=by
 refine QE.mk (H_ PySem.F.plainAttrs_str PySem.F.slot_str_join PySem.F.type_str_join (Iv hK) ho ha B O n hs rfl) λp σ F H R rs Z=>?_
 rw [hK]
 refine up1 rs Z λe1 p1 v1 F1 H1 Y s1 sh D U=>?_
 obtain ⟨⟨z,hz⟩,Z⟩:=U
 rw [cu D hz]
 refine ⟨rfl,dz Y Z λes2 p2 vs2 F2 H2 J s2 I xN U=>?_⟩
 obtain ⟨e2,z',ts,h2,h3,h4,ok,q⟩:=U
 obtain ⟨v,rfl,er⟩:=oA xN h2
 obtain ⟨a1,vs,rfl,g,r⟩:=ig J er h4
 rw [r.strs] at g
 have e3:=cu (D.mono s2 I) h3
 rw [cu D hz] at e3
 cases e3
 exact ⟨z,a1,ts,rfl,rfl,.of g,ok,aY J (s1.trans s2) (sh.trans I) (.str _) q⟩
def Cj (B:TQ) (I:TAQ):TN:=λp Q=>B p λe1 n=>(∃z,lk n e1=.str z)/\I n λes p2=>∃(e2:Ev) (z y:Str),es=[e2]/\lk p2 e1=.str z/\lk p2 e2=.str y/\(y.length == 0)=false/\z.length<=100000/\(Txt.split z y).length<=100000/\Q (.ro ((Txt.split z y).map D.str)) p2
theorem uV (hK:X.K=C.K) (ho:PE X o (Up C to)) (ha:PA X [e] (gA C cz))
  (B:attributeBase o "split" X.env (eval o X.env)=eval o X.env:=by rfl)
  (J:((backTo pos (starEach [e] X.env)).all (λx=>!x.1) && (backToKw pos (keywordEach [] X.env)).all (λx=>x.1.isSome)
   && decide ([e].length+([]:List Keyword).length+(if ([]:List Keyword).isEmpty then 0 else 1)<30))=true:=by rfl)
  (n:(apos.endLine == pos.line)=true:=by rfl) (hs:starEach [e] X.env=(false,eval e X.env)::starEach [] X.env:=by rfl):PE X (.Call (.Attribute o "split" apos) [e] [] pos) (lD C (Cj to cz)):=by
 refine QN.mk (H_ PySem.F.plainAttrs_str PySem.F.slot_str_split PySem.F.type_str_split Iw ho ha B J n hs rfl) λp σ F H R rs Z=>?_
 rw [hK]
 refine up1 rs Z λe1 p1 v1 F1 H1 Y s1 sh D O=>?_
 obtain ⟨⟨z,hz⟩,Z⟩:=O
 rw [cu D hz]
 refine ⟨rfl,dz Y Z λes2 p2 vs2 F2 H2 U s2 I xN O=>?_⟩
 obtain ⟨e2,z',y,h2,h3,h4,k1,k2,k3,q⟩:=O
 obtain ⟨v,rfl,er⟩:=oA xN h2
 have e3:=cu (D.mono s2 I) h3
 rw [cu D hz] at e3
 cases e3
 exact ⟨z,y,rfl,by rw [cu er h4],k1,k2,k3,λl hl=>fY U (s1.trans s2) (sh.trans I) hl (aK.Ef _) q⟩
def iqS (z:TQ):sE:=λp Q=>z p λe n=>∃x:Str,lk n e=.str x/\x.cps.all (·<128)=true/\Q x.cps.size (λi=>.str ⟨#[x.cps.getD i 0]⟩) n
theorem V4 (x:Str):JQ K (Its x) x.cps.size (λi=>.str ⟨#[x.cps.getD i 0]⟩) F:=⟨λi F H _ _ h=>h,λi F H v H' _ _ hi n=>by
 obtain ⟨h1,c,h2,z⟩:=n
 subst h1 z
 have e:x.cps.getD i 0=c:=by rw [Array.getD_eq_getD_getElem?,h2];rfl
 exact .inl ⟨rfl,by rw [e];exact .str _⟩,λ_ _ _ _=>zC _⟩
theorem Zn (U:PE X a (Up C ta)):PI X tg a (vZ C (iqS ta)):=
 QI.mk (U3 U) λp σ F H R I O=>up1 I O λe1 J Y F1 H1 n D sh z B=>by obtain ⟨x,h1,h2,q⟩:=B;exact ⟨x,cu z h1,h2,_,_,J,F1,n,D,sh,V4 x,q⟩
end
abbrev V5:=List Sl->Addr->Prop
def Zo (K:PySem.W.Frag) (S:V5):Sp:=λvs H _ E=>∃as F n,aM F H/\xR K F H as vs/\S as n/\∀z H',Post K F H as vs (.rd .non) as .non z H'->E (.ref n) none H'
def GX (C:Pc) (n:Addr->aG->Prop):Addr->St->Hp->Prop:=λz σ H=>∃p F,RS C p σ F H/\n z p
def Pc.at (C:Pc) (F0:Hp):Pc:={ C with F0:=F0 }
section
variable {X:Cx} {C:Pc} {a b c e:Expr} {ta tb:TQ} {pos np cpos p0:Pos} {p:aG} {σ:St} {F H:Hp} {st:Stmt} {rest:List Stmt} {es:List Expr} {cz:TAQ} {XE:Addr->aG->Prop} {x:Str} {t:iu}
theorem RS.at (rs:RS C p σ F H):RS (C.at F) p σ F H:=⟨rs.sub,.refl _,λ_ _ h=>.inl h,rs.keep,rs.grow,rs.len,λi s h=>rs.sl i s h,rs.apart,rs.pin⟩
theorem RS.PN {B:aG} (rs:RS C p σ F H) (n:RS (C.at F) B σ' F' H'):RS C B σ' F' H'/\aM F F':=
 ⟨⟨n.sub,rs.ext.trans n.ext,λa o h=>by
   rcases n.new a o h with z|z|z
   ·exact rs.new a o z
   ·exact .inr (.inl z)
   ·exact .inr (.inr z),n.keep,n.grow,n.len,λi s h=>n.sl i s h,n.apart,n.pin⟩,n.ext⟩
def Ck (S:V5) (B:Addr->aG->Prop) (t:TAQ):TN:=λp _=>t p λes n=>∃as z,dj n es=some as/\(dY es).Nodup/\S as z/\B z (back n es as)
theorem PX {k:Nat} (hK:X.K=C.K) (D:aF X.K X.mg x st ps) (G:bO X.prog X.w X.K X.mg X.base (nP X.prog X.w) k D.f D.fd ps (Zo X.K S)) (Z:bI k X.A) (lk:qH X (GX C XE)) (ha:PA X (e::es) (gA C cz))
  (hg:Gl X x:=by rfl) (B:(x == ("__debug__":Str))=false:=by decide) (he:starEach (e::es) X.env=(false,eval e X.env)::starEach es X.env:=by rfl) (hpl:(backTo pos (starEach es X.env)).any (·.1)=false:=by rfl) :
  PE X (.Call (.Name x p0) (e::es) [] pos) (lD C (Ck S XE cz)):=
 QN.mk (IK D G Z lk ha hg B he hpl) λp σ F H R U Y=>dz U Y λes1 p1 O F1 H1 n s1 sh z J=>by
  obtain ⟨as,I,h1,nd,hS,q⟩:=J
  rw [hK]
  exact ⟨as,F1,I,n.sub,(fZ n z h1 nd).1,hS,λF' H' po=>⟨I,rfl,_,F',(n.call z h1 nd po).1,q⟩⟩
def Cm (z:Addr->aG->Prop) (B:Addr) (t:TAQ):iu:=λ_ p=>t p λes n=>es.length<=9/\z B n
theorem Zq {D:Addr} (c:DP X.K X.mg x D) (Z:X.calm=true) (lk:uH X (GX C XE)) (ha:PA X (e::es) (gA C cz))
  (Y:Gl X x:=by rfl) (z:(x == ("__debug__":Str))=false:=by decide) (he:starEach (e::es) X.env=(false,eval e X.env)::starEach es X.env:=by rfl) (hpl:(backTo cpos (starEach es X.env)).any (·.1)=false:=by rfl) :
  PS X (.Raise (some (.Call (.Name x np) (e::es) [] cpos)) none pos) (iw C (Cm XE D cz)):=
 QS.mk (IV c Z lk ha Y z he hpl) λp σ F H E J O=>dz J O λes1 p1 I F1 H1 n s1 sh B ⟨U,q⟩=>⟨by
  rw [<-(pR B).1];exact yi U (by decide),_,F1,n,q⟩
def V6 (t:iu):iu:=λE p=>t { E with nx:=λ_=>False } p
theorem Zr (O:PS X st (iw C t)):fX X (st::rest) (iw C (V6 t)):=λpins s σ H Y I B=>by
 obtain ⟨p,F,E,D,J,l⟩:=B
 refine wpAny_execs_cons (bh (O pins s σ H _ I ⟨p,F,{ E with nx:=λ_=>False },D,J,Ends.Le.refl _⟩) λf U q=>?_)
 cases f with
 | next=>obtain ⟨_,_,_,_,_,_,_,z⟩:=q;exact z.elim
 | ret u=>obtain ⟨v,σ',H',n,r,q⟩:=q;exact ⟨v,σ',H',n,r,l.rt _ _ q⟩
 | brk=>obtain ⟨σ',H',n,q⟩:=q;exact ⟨σ',H',n,l.bk _ _ q⟩
 | cont=>obtain ⟨σ',H',n,q⟩:=q;exact ⟨σ',H',n,l.ct _ _ q⟩
end
def Zt (L:Addr) (h₀:Heap) (n:Hp) (a C:Addr) (h:Heap):Prop:=
 n a=none/\h₀.get? a=none/\∃oe vs T oT ts,h.get? a=some oe/\oe.cls=.ref C/\oe.data=.fields vs/\vs[1]? = some (.ref T)/\T≠a/\h₀.get? T=none/\n T=none/\h.get? T=some oT/\oT.data=.fields ts/\ts[3]? = some (rawInt L)
def acP (X:Cx) (C:Pc) (n:Addr->aG->Prop):Prop:=∀(pins:List (Addr × Obj)) (σ σ':St) (H' F:Hp) (s':Shared) (a Cl L:Addr) (p:aG),X.env.frame=some L->Inv X pins σ H' s'->Zt L X.s₀.heap H' a Cl s'.heap->RS C p σ' F H'->n Cl p->X.xe (.ref a) s'
theorem Cp {h:Heap} {z:Obj} (hT:h.get? T=some z) (hd:z.data=.fields ts) (D:ts[3]? = some y) :
  ∃o' n,(h.update T (Obj.mapFields (·.setIfInBounds 3 x))).get? T=some o'/\o'.data=.fields n/\n[3]? = some x:=by
 have B:=(yW.mp D).1
 refine ⟨_,_,Heap.get?_update_self (Obj.mapFields (·.setIfInBounds 3 x)) hT (Obj.isFreed_of_fields (xi hd _)),xi hd _,by simp [Array.getElem?_setIfInBounds,B]⟩
section
variable {P:Program} {w:World} {K:PySem.W.Frag} {mg:Str->Option Value} {base:Heap} {N:List Str} {qual:Str} {scope:Scope} {f:Addr} {cd:Value} {A:Around} {outer:List Env} {s₀:Shared} {H₀:Hp} {E₀:XK}
theorem xZ {B:List (Addr × Obj)} {σ:St} {U:Hp} {s':Shared} {a C L:Addr} (hL:(d9 (nP P w) P w K mg base N qual scope f cd A outer s₀ H₀ E₀).env.frame=some L)
  (I:Inv (d9 (nP P w) P w K mg base N qual scope f cd A outer s₀ H₀ E₀) B σ U s') (t:Zt L s₀.heap U a C s'.heap) (q:E₀ (.ref C) none U):(d9 (nP P w) P w K mg base N qual scope f cd A outer s₀ H₀ E₀).xe (.ref a) s':=by
 obtain ⟨t0,t1,oe,vs,T,oT,ts,a1,a2,a3,a4,a5,a6,a7,O,J,n⟩:=t
 have hz:=(yW.mp n).1
 show wpAny _ _ (leaving _ _) _ _ s'
 unfold leaving
 refine zh (wpAny_noteFrame_inFlight hL a1 a3 a4 O J n (wpAny_setFlight_none a1 a3 a4 O J hz ?_))
 have Z:∀b,b≠T->(s'.heap.update T (Obj.mapFields (·.setIfInBounds 3 Value.none))).get? b=s'.heap.get? b:=λb D=>xd _ _ (Ne.symm D)
 have nT:T ∉ frs (d9 (nP P w) P w K mg base N qual scope f cd A outer s₀ H₀ E₀).stack:=λz=>by
  obtain ⟨_,o',q',nf⟩:=I.stack.mem z
  rw [O] at q';cases q'
  exact nf _ J
 obtain ⟨un,hok⟩:=pN (ex:=[T]) (h':=s'.heap.update T (Obj.mapFields (·.setIfInBounds 3 Value.none))) rfl rfl rfl I ⟨λb o e n1 _=>(Z b (λz=>n1 (by rw [z];exact List.mem_singleton_self _))).trans e,λb o e D=>⟨o.slots,(Z b (λz=>nT (z▸D))).trans e⟩⟩ (λb D=>by rw [zD.mp D];exact ⟨a6,a7⟩)
 obtain ⟨o',Y,c1,c2,c3⟩:=Cp (x:=Value.none) O J n
 exact ⟨a,C,U,rfl,I.os,I.bare,un,hok,⟨t0,t1,oe,vs,T,o',Y,(Z a (Ne.symm a5)).trans a1,a2,a3,a4,a5,a6,a7,c1,c2,c3⟩,q⟩
end
abbrev XHp:=Hp->List Sl->Addr->Prop
def P0 (K:PySem.W.Frag) (S:XHp):Sp:=λvs H _ E=>∃as F n,aM F H/\xR K F H as vs/\S H as n/\∀z H',Post K F H as vs (.rd .non) as .non z H'->E (.ref n) none H'
section
variable {P:Program} {w:World} {K:PySem.W.Frag} {mg:Str->Option Value} {base:Heap}
theorem sy.Zu {x B:Str} {st:Stmt} {f:Addr} {fd:FuncData} {N ps:List Str} {k:Nat} {S:XHp} (Fn:sy K x B st f fd) (Sc:ao N ps (aa st)) (len:∀H as O,S H as O->as.length=ps.length/\∀(i:Nat) (s:Sl),as[i]? = some s->∃d,s=.d d)
  (Z:∀(D:Value) (A:Around) (outer:List Env) (s:Shared) (H:Hp) (E:XK) (C:Pc) (as:List Sl) (O:Addr) (XE:Addr->aG->Prop),K=C.K->C.H0=H->C.bs=[]->bI k (A.deeper (envOfC B (aa st) s.heap.objs.size f D))->S H as O->(XE=λc _=>c=O)->
   qH (d9 (nP P w) P w K mg base N B (aa st) f D A outer s H E) (GX C XE)->uH (d9 (nP P w) P w K mg base N B (aa st) f D A outer s H E) (GX C XE)->acP (d9 (nP P w) P w K mg base N B (aa st) f D A outer s H E) C XE->
   ∃t,fX (d9 (nP P w) P w K mg base N B (aa st) f D A outer s H E) (cY st) (iw C t)/\t { nx:=λ_=>False,rt:=λ_ _=>False } (bM N as)):bO P w K mg base (nP P w) (k+1) f fd ps (P0 K S):=by
 obtain ⟨oc,od,kV,doc,pm,an,D,ct,osl,rfl,lk,hcd⟩:=Fn.ex
 refine RQ lk hcd Sc (λvs H Q E Y=>by obtain ⟨as,F,O,_,h2,h3,_⟩:=Y;rw [<-h2.len];exact (len _ as O h3).1) λA outer s H vs Q E hr Y=>?_
 obtain ⟨as,F,O,Y7,ar,hS,hq⟩:=Y
 have al:=(len _ as O hS).2
 have J:∀{p1:aG} {σ1:St} {F1 H1:Hp},RS ⟨K,F,H,[]⟩ p1 σ1 F1 H1->E (.ref O) none H1:=λ{p1 σ1 F1 H1} n=>by
  refine hq F1 H1 ⟨n.ext,n.sub,n.new,λa o h _=>n.keep a o h (λq hq=>by cases hq),n.grow,λi xs h=>?_,.non⟩
  obtain ⟨d,e⟩:=al i _ h
  cases e
 obtain ⟨t,ht,tq⟩:=Z D A outer s H E ⟨K,F,H,[]⟩ as O _ rfl rfl rfl hr hS rfl
  (λpins σ H1 s1 H' s' a C' I I' tr Y=>by obtain ⟨p1,F1,n,e⟩:=Y;subst e;exact By I I' tr (J n))
  (λpins σ H1 s1 s' a C' args I m e0 Y=>by obtain ⟨p1,F1,n,e⟩:=Y;subst e;exact wZ (t:=a) I m e0 (J n))
  (λpins σ σ' H' F1 s' a Cl' L p1 hL I tr n e=>by subst e;exact xZ hL I tr (J n))
 have U:∀(i:Nat) (s:Sl),(bM N as)[i]? = some (some s)->as[i]? = some s:=λi s h=>by
  unfold bM at h
  by_cases hi:i<as.length
  ·rw [zS (by simpa using hi)] at h
   simpa using h
  ·rw [yf (by simpa using xE hi),zX] at h
   split at h<;>cases h
 have rs:RS ⟨K,F,H,[]⟩ (bM N as) (start N vs) F H:=by
  refine ⟨Y7,.refl _,λa o h=>.inl h,λa o h _=>h,λa h=>h,?_,λi s h=>?_,λi j s s' a hij e1 m1 e2 m2 x1 x2=>?_,λq hq=>by cases hq⟩
  ·unfold bM start
   rw [zt,zt,z9,z9,zF,zF,ar.len]
  ·have h':=U i s h
   obtain ⟨v,h1,h2⟩:=ar.at_ i s h'
   obtain ⟨d,rfl⟩:=al i s h'
   refine ⟨v,?_,h2⟩
   unfold start
   have hi:=(zx.mp h1).1
   rw [zS (by simpa using hi)]
   simpa using h1
  ·obtain ⟨d,rfl⟩:=al i s (U i s e1)
   cases m1
 exact ⟨_,ht,bM N as,F,_,rs,tq,⟨λ_ _ ⟨_,_,_,_,z⟩=>z.elim,λ_ _ ⟨_,_,_,_,_,_,_,z⟩=>z.elim,λ_ _ ⟨_,_,_,_,z⟩=>z.elim,λ_ _ ⟨_,_,_,_,z⟩=>z.elim⟩⟩
theorem sy.okX {x n:Str} {st:Stmt} {f:Addr} {fd:FuncData} {N ps:List Str} {k:Nat} {S:V5} (Z:sy K x n st f fd) (Y:ao N ps (aa st)) (len:∀as D,S as D->as.length=ps.length/\∀(i:Nat) (s:Sl),as[i]? = some s->∃d,s=.d d)
  (B:∀(z:Value) (A:Around) (outer:List Env) (s:Shared) (H:Hp) (E:XK) (C:Pc) (as:List Sl) (D:Addr) (XE:Addr->aG->Prop),K=C.K->bI k (A.deeper (envOfC n (aa st) s.heap.objs.size f z))->S as D->(XE=λc _=>c=D)->
   qH (d9 (nP P w) P w K mg base N n (aa st) f z A outer s H E) (GX C XE)->uH (d9 (nP P w) P w K mg base N n (aa st) f z A outer s H E) (GX C XE)->
   ∃t,fX (d9 (nP P w) P w K mg base N n (aa st) f z A outer s H E) (cY st) (iw C t)/\t { nx:=λ_=>False,rt:=λ_ _=>False } (bM N as)):bO P w K mg base (nP P w) (k+1) f fd ps (Zo K S):=
 sy.Zu (S:=λ_=>S) Z Y (λ_=>len) λz A outer s H E C as D XE U _ _ J O hX lk I _=>B z A outer s H E C as D XE U J O hX lk I
end
section
variable {K:PySem.W.Frag} {C N M NM:Addr} {nm q nm' q':Str} {bs bs':List Value} {hd ab hd' ab':Bool} {sn sn':List Str} {sub sub':List Value} {col col':Option Bool} {dd YL:Option Addr} {k0 k1 k2 k3 k5 j0 j1 j2 j3 j5:Option Value}
def strKeys (es:Array DictEntry):Bool:=es.toList.all λe=>match e.key with|.str _ _=>true|_=>false
theorem uW {sl:Array (Option Value)} (l:K.lookup N=some ⟨oc,od,.dict es ep,sl⟩) (h:strKeys es=true):PySem.W.nsOkIn K N=true:=by
 unfold PySem.W.nsOkIn
 rw [l]
 show (es.all λe=>match e.key with|.str _ _=>true|_=>false)=true
 rw [<-xq]
 exact h
theorem J_ (l:K.lookup C=some (excClassObj nm q C N bs DN hd sn sub ab col dd k0 k1 k2 k3 k5 "ValueError.__new__")) (o:PySem.W.nsOkIn K N=true) (i:PySem.W.nsIn K N "__init__"=some none):PySem.W.excIn K C DN "ValueError.__new__"=true:=by
 have t:PySem.W.tailIn K DN DN=true:=by unfold PySem.W.tailIn;simp
 unfold PySem.W.excIn
 rw [l]
 simp [t,o,i]
theorem Eh (l:K.lookup C=some (excClassObj nm q C N bs (.ref M::DN) hd sn sub ab col dd k0 k1 k2 k3 k5 "ValueError.__new__")) (o:PySem.W.nsOkIn K N=true) (i:PySem.W.nsIn K N "__init__"=some none)
  (B:K.lookup M=some (excClassObj nm' q' M NM bs' DN hd' sn' sub' ab' col' YL j0 j1 j2 j3 j5 "ValueError.__new__")) (z:PySem.W.nsOkIn K NM=true) (D:PySem.W.nsIn K NM "__init__"=some none):PySem.W.excIn K C DN "ValueError.__new__"=true:=by
 have t:PySem.W.tailIn K DN DN=true:=by unfold PySem.W.tailIn;simp
 have n:PySem.W.tailIn K DN (.ref M::DN)=true:=by
  rw [PySem.W.tailIn]
  simp only [B,z,D,t]
  simp
 unfold PySem.W.excIn
 rw [l]
 simp [n,o,i]
theorem P_ (c:PySem.W.isClsIn K C=true) (y:PySem.W.typeIn K (.ref C)=some (.type "type")) (s:PySem.W.subIn K t (.ref C)=some b) (h:t=.ref C->b=true):PySem.W.kitOne K t (.ref C)=some b:=by
 unfold PySem.W.kitOne
 by_cases e:t=.ref C
 ·rw [zo (by rw [e];simp),h e]
 ·rw [zi (by simp [e])]
  unfold PySem.W.kitCls
  have n:(PySem.W.clsIn K C).isSome=true:=c
  simp only [n,y]
  exact s
theorem V7 (m:PySem.W.kitMeta T=true) (s:PySem.W.subIn K t (.type T)=some b) (h:t=.type T->b=true):PySem.W.kitOne K t (.type T)=some b:=by
 unfold PySem.W.kitOne
 by_cases e:t=.type T
 ·rw [zo (by rw [e];simp),h e]
 ·rw [zi (by simp [e])]
  unfold PySem.W.kitCls
  simp only [m,if_true]
  exact s
end
def Zv:Key->PyData
 | .inl i=>.int i
 | .inr x=>.str x
mutual
def toX:D->PyData
 | .bl b=>.bool b
 | .int i=>.int i
 | .str x=>.str x
 | .lst xs=>.list (toXs xs)
 | .tup xs=>.tuple (toXs xs)
 | .sO ks ds=>.dict ((ks.map Zv).zip (toXs ds))
 | _=>.none
def toXs:List D->List PyData
 | []=>[]
 | x::xs=>toX x::toXs xs
end
mutual
def Ka:D->Bool
 | .atom _=>false
 | .exc _=>false
 | .vY _=>false
 | .lst xs=>pU xs
 | .tup xs=>pU xs
 | .sO _ ds=>pU ds
 | _=>true
def pU:List D->Bool
 | []=>true
 | x::xs=>Ka x && pU xs
end
section
variable {X:Cx} {pins:List (Addr × Obj)} {s:Shared} {σ:St} {H F:Hp}
inductive x_:PyData->Prop
 | none:x_ .none
 | bool (b:Bool):x_ (.bool b)
 | int {i:Int}:i.natAbs.log2<1920->x_ (.int i)
 | str {x:Str}:(reprText x).length<=sizeLine->x_ (.str x)
mutual
def Kc:D->Prop
 | .int i=>i.natAbs.log2<1920
 | .str x=>(reprText x).length<=sizeLine
 | .lst xs=>pW xs
 | .tup xs=>pW xs
 | .sO ks ds=>(∀k∈ks,x_ (Zv k))/\pW ds
 | _=>True
def pW:List D->Prop
 | []=>True
 | x::xs=>Kc x/\pW xs
end
end
structure Good (k n:Nat) (d:D):Prop where
 pl:Ka d=true
 sm:Kc d
 dp:(toX d).depth<=k
 sz:(toX d).shown.length<=n
theorem mX:∀ns:List Int,lK (ns.map D.int)=true/\PyData.canLayAll0 (toPs (ns.map D.int))=true/\PyData.depthAll (toPs (ns.map D.int))<=1
 | []=>⟨rfl,rfl,yN _⟩
 | n::r=>by
  obtain ⟨h1,h2,z⟩:=mX r
  refine ⟨h1,h2,?_⟩
  show max _ _<=1
  exact Nat.max_le.mpr ⟨by first|exact zC 1|exact yN 1,z⟩
theorem oG.ints (ns:List Int):oG (.lst (ns.map D.int)):=⟨(mX ns).1,(mX ns).2.1,yi (Nat.succ_le_succ (mX ns).2.2) (by decide)⟩
theorem oJ:∀ns ms:List Int,oH (.lst (ns.map D.int)) (.lst (ms.map D.int))=decide (ns=ms)
 | [],[]=>rfl
 | [],_::_=>rfl
 | _::_,[]=>rfl
 | n::r,m::t=>by
  have z:PyData.eqvAll (toPs (r.map D.int)) (toPs (t.map D.int))=decide (r=t):=oJ r t
  show ((n == m) && PyData.eqvAll (toPs (r.map D.int)) (toPs (t.map D.int)))=_
  rw [z,Bool.eq_iff_iff];simp
theorem j8 (h:oG d):oH d d=true:=SeqAt.eqv_refl _ h.ly
section
variable {X:Cx} {C:Pc} {e:Expr} {t1 t2:TN}
def nOr (z n:TN):TN:=λp Q=>z p Q\/n p Q
theorem acR (U:PE X e (lD C t1)) (O:PE X e (lD C t2)):PE X e (lD C (nOr t1 t2)):=λpins s σ H Q I D=>by
 obtain ⟨p,F,R,n,J,B⟩:=D
 rcases J with z|z
 ·exact U pins s σ H Q I ⟨p,F,R,n,z,B⟩
 ·exact O pins s σ H Q I ⟨p,F,R,n,z,B⟩
end
def Pc.add (C:Pc) (W:Hp):Pc:=⟨C.K,C.F0,λa=>match W a with|some o=>some o|none=>C.H0 a,C.bs⟩
def Hp0:Hp:=λ_=>none
def Zw (o:HO):Prop:=(∃vs,o=.lst vs)\/(∃n,o=.dK n)\/(∃C dx fs,o=.ins C dx fs)\/∃x,o=.own x
structure cI (C:Pc) (W:Hp):Prop where
 lst:∀a o,W a=some o->Zw o
 h0:∀a o,W a=some o->C.H0 a=none
 f0:∀a o,W a=some o->C.F0 a=none
 bs:∀a o,W a=some o->∀q∈C.bs,q.2≠a
theorem cI.nil (C:Pc):cI C Hp0:=⟨λ_ _ h=>(nomatch h),λ_ _ h=>(nomatch h),λ_ _ h=>(nomatch h),λ_ _ h=>(nomatch h)⟩
section
variable {X:Cx} {C:Pc} {W:Hp} {p:aG} {σ:St} {F H:Hp} {a:Addr} {o:HO}
theorem iQ (h:W a=some o):(C.add W).H0 a=some o:=by show (match W a with|some o=>some o|none=>C.H0 a)=_;rw [h]
theorem gC (h:W a=none):(C.add W).H0 a=C.H0 a:=by show (match W a with|some o=>some o|none=>C.H0 a)=_;rw [h]
theorem iz (h:(C.add W).H0 a=none):W a=none/\C.H0 a=none:=by
 cases e:W a with
 | none=>exact ⟨rfl,by rw [<-gC (C:=C) e];exact h⟩
 | some o=>rw [iQ e] at h;cases h
theorem cI.non (ok:cI C W) (h:C.H0 a=some o):W a=none:=by
 cases e:W a with
 | none=>rfl
 | some u=>rw [ok.h0 a u e] at h;cases h
theorem RS.wH (rs:RS (C.add W) p σ F H) (ok:cI C W) (h:W a=some o):H a=some o:=rs.keep a o (iQ h) (ok.bs a o h)
theorem RS.wF (rs:RS (C.add W) p σ F H) (ok:cI C W) (h:W a=some o):F a=none:=by
 cases e:F a with
 | none=>rfl
 | some u=>
  rcases rs.new a u e with z|z|⟨xs,z⟩
  ·rw [show (C.add W).F0 a=C.F0 a from rfl,ok.f0 a o h] at z;cases z
  ·rw [iQ h] at z;cases z
  ·have:=rs.sub a u e
   rw [rs.wH ok h,z] at this
   rcases ok.lst a o h with ⟨vs,rfl⟩|⟨vs,rfl⟩|⟨_,_,_,rfl⟩|⟨vs,rfl⟩<;>cases this
theorem RS.un (rs:RS (C.add W) p σ F H) (ok:cI C W):RS C p σ F H:=by
 refine ⟨rs.sub,rs.ext,λb u e=>?_,λb u e n=>rs.keep b u (by rw [gC (ok.non e)];exact e) n,λb n=>rs.grow b λz=>n (iz z).2,rs.len,λi s e=>?_,rs.apart,rs.pin⟩
 ·rcases rs.new b u e with z|z|z
  ·exact .inl z
  ·exact .inr (.inl (iz z).2)
  ·exact .inr (.inr z)
 ·obtain ⟨v,e1,r⟩:=rs.sl i s e
  refine ⟨v,e1,?_⟩
  cases s with
  | d x=>exact r
  | own xs=>obtain ⟨b,vs,O,J,I,D,B⟩:=r;exact ⟨b,vs,O,J,(iz I).2,D,B⟩
  | bor xs=>exact r
theorem RS.ad (rs:RS C p σ F H) (B:∀a o,W a=some o->H a=some o/\F a=none)
  (Y:∀(i:Nat) (xs:List D) (a:Addr),p[i]? = some (some (.own xs))->σ[i]? = some (some (.ref a))->W a=none):RS (C.add W) p σ F H:=by
 refine ⟨rs.sub,rs.ext,λb u e=>?_,λb u e n=>?_,λb n=>?_,rs.len,λi s e=>?_,rs.apart,rs.pin⟩
 ·rcases rs.new b u e with z|z|z
  ·exact .inl z
  ·refine .inr (.inl ?_)
   cases q:W b with
   | none=>rw [gC q];exact z
   | some w=>rw [(B b w q).2] at e;cases e
  ·exact .inr (.inr z)
 ·cases q:W b with
  | none=>rw [gC q] at e;exact rs.keep b u e n
  | some w=>rw [iQ q] at e;cases e;exact (B b _ q).1
 ·cases q:W b with
  | none=>rw [gC q] at n;exact rs.grow b n
  | some w=>intro z;rw [(B b _ q).1] at z;cases z
 ·obtain ⟨v,e1,r⟩:=rs.sl i s e
  refine ⟨v,e1,?_⟩
  cases s with
  | d x=>exact r
  | own xs=>
   obtain ⟨b,vs,rfl,U,O,J,I⟩:=r
   exact ⟨b,vs,rfl,U,by rw [gC (Y i xs b e e1)];exact O,J,I⟩
  | bor xs=>exact r
theorem RS.wO (rs:RS (C.add W) p σ F H) {i:Nat} {xs:List D} (e:p[i]? = some (some (.own xs))) (B:σ[i]? = some (some (.ref a))):W a=none/\∃vs,H a=some (.lst vs):=by
 obtain ⟨v,e2,b,vs,rfl,J,z,n,I⟩:=rs.sl i _ e
 rw [B] at e2;cases e2
 exact ⟨(iz z).1,vs,n⟩
theorem RS.R4 {o us:HO} (rs:RS (C.add W) p σ F H) (ok:cI C W) (h:W a=some o) (hn:Zw us) :
  RS (C.add (upd W a us)) p σ F (upd H a us)/\cI C (upd W a us):=by
 have D:=rs.un ok
 have fa:=rs.wF ok h
 have J:∀b o,upd W a us b=some o->∃o',W b=some o':=λb o e=>by
  by_cases B:b=a
  ·subst B;exact ⟨_,h⟩
  ·rw [aC B] at e;exact ⟨_,e⟩
 refine ⟨RS.ad ⟨λb u e=>?_,D.ext,D.new,λb u e n=>?_,λb n e=>?_,D.len,λi s e=>?_,D.apart,D.pin⟩ (λb u e=>?_) (λi xs b e e1=>?_),⟨λb u e=>?_,λb u e=>?_,λb u e=>?_,λb u e=>?_⟩⟩
 ·rw [aC (λz=>by rw [z,fa] at e;cases e)];exact D.sub b u e
 ·have B:b≠a:=λz=>by rw [z,ok.h0 a _ h] at e;cases e
  rw [aC B];exact D.keep b u e n
 ·by_cases B:b=a
  ·subst B;rw [aN] at e;cases e
  ·rw [aC B] at e;exact D.grow b n e
 ·obtain ⟨v,e1,r⟩:=rs.sl i s e
  obtain ⟨v',O,r'⟩:=D.sl i s e
  rw [e1] at O;cases O
  refine ⟨v,e1,?_⟩
  cases s with
  | d x=>exact r'
  | own xs=>
   obtain ⟨b,I,rfl,z2,Y,z4,Z⟩:=r'
   have B:b≠a:=λz=>by have:=(rs.wO e e1).1;rw [z,h] at this;cases this
   exact ⟨b,I,rfl,z2,Y,by rw [aC B];exact z4,Z⟩
  | bor xs=>
   obtain ⟨b,I,rfl,z2,⟨q,hq,Y⟩,z4,Z⟩:=r'
   have B:b≠a:=λz=>ok.bs a _ h q hq (Y.trans z)
   exact ⟨b,I,rfl,z2,⟨q,hq,Y⟩,by rw [aC B];exact z4,Z⟩
 ·by_cases B:b=a
  ·subst B;rw [aN] at e ⊢;exact ⟨e,fa⟩
  ·rw [aC B] at e ⊢;exact ⟨rs.wH ok e,rs.wF ok e⟩
 ·have:=(rs.wO e e1).1
  by_cases B:b=a
  ·subst B;rw [h] at this;cases this
  ·rw [aC B];exact this
 ·by_cases B:b=a
  ·subst B;rw [aN] at e;cases e;exact hn
  ·rw [aC B] at e;exact ok.lst b u e
 ·obtain ⟨o',U⟩:=J b u e;exact ok.h0 b o' U
 ·obtain ⟨o',U⟩:=J b u e;exact ok.f0 b o' U
 ·obtain ⟨o',U⟩:=J b u e;exact ok.bs b o' U
theorem RS.Zx (rs:RS (C.add W) p σ F H) (ok:cI C W) (h:W a=some (.lst vs)) :
  RS (C.add (upd W a (.lst us))) p σ F (upd H a (.lst us))/\cI C (upd W a (.lst us)):=rs.R4 ok h (.inl ⟨_,rfl⟩)
theorem RS.Kd {vs:HO} (rs:RS (C.add W) p σ F H) (ok:cI C W) (D:F a=none) (h2:(C.add W).H0 a=none) (Z:H a=some vs) (Y:Zw vs) (I:BK p σ a) :
  RS (C.add (upd W a vs)) p σ F H/\cI C (upd W a vs):=by
 have B:=rs.un ok
 obtain ⟨w0,c0⟩:=iz h2
 refine ⟨B.ad (λb u e=>?_) (λi xs b e e1=>?_),⟨λb u e=>?_,λb u e=>?_,λb u e=>?_,λb u e=>?_⟩⟩
 ·by_cases n:b=a
  ·subst n;rw [aN] at e;cases e;exact ⟨Z,D⟩
  ·rw [aC n] at e;exact ⟨rs.wH ok e,rs.wF ok e⟩
 ·have:=(rs.wO e e1).1
  by_cases n:b=a
  ·subst n;exact absurd e1 (I i _ e rfl)
  ·rw [aC n];exact this
 ·by_cases n:b=a
  ·subst n;rw [aN] at e;cases e;exact Y
  ·rw [aC n] at e;exact ok.lst b u e
 ·by_cases n:b=a
  ·subst n;exact c0
  ·rw [aC n] at e;exact ok.h0 b u e
 ·by_cases n:b=a
  ·subst n
   cases q:C.F0 b with
   | none=>rfl
   | some w=>rw [B.ext b w q] at D;cases D
  ·rw [aC n] at e;exact ok.f0 b u e
 ·by_cases n:b=a
  ·subst n
   intro q U z
   obtain ⟨O,xs,J⟩:=B.pin q U
   exact I q.1 _ J rfl (by rw [O,z])
  ·rw [aC n] at e;exact ok.bs b u e
theorem RS.take (rs:RS (C.add W) p σ F H) (ok:cI C W) (D:F a=none) (B:(C.add W).H0 a=none) (z:H a=some (.lst vs)) (n:BK p σ a) :
  RS (C.add (upd W a (.lst vs))) p σ F H/\cI C (upd W a (.lst vs)):=rs.Kd ok D B z (.inl ⟨_,rfl⟩) n
end
structure jC where
 nx:Hp->aG->Prop
 rt:Rt->Hp->aG->Prop
 bk:Hp->aG->Prop:=λ_ _=>False
 ct:Hp->aG->Prop:=λ_ _=>False
abbrev mD:=jC->Hp->aG->Prop
def jC.dn (C:Pc) (F0:Hp) (E:jC):Ends where
 nx:=λσ H=>∃W p F,RS (C.add W) p σ F H/\cI C W/\aM F0 F/\E.nx W p
 rt:=λv H=>∃r W p σ F,RS (C.add W) p σ F H/\cI C W/\aM F0 F/\Jd (C.add W) p σ F H r v/\E.rt r W p
 bk:=λσ H=>∃W p F,RS (C.add W) p σ F H/\cI C W/\aM F0 F/\E.bk W p
 ct:=λσ H=>∃W p F,RS (C.add W) p σ F H/\cI C W/\aM F0 F/\E.ct W p
theorem uX {E:jC} (s:aM F F1):(E.dn C F1).Le (E.dn C F):=⟨λ_ _ n=>by obtain ⟨W,p,G,a,k,b,c⟩:=n;exact ⟨W,p,G,a,k,s.trans b,c⟩,λ_ _ n=>by obtain ⟨r,W,p,σ,G,a,k,b,c⟩:=n;exact ⟨r,W,p,σ,G,a,k,s.trans b,c⟩,λ_ _ n=>by obtain ⟨W,p,G,a,k,b,c⟩:=n;exact ⟨W,p,G,a,k,s.trans b,c⟩,λ_ _ n=>by obtain ⟨W,p,G,a,k,b,c⟩:=n;exact ⟨W,p,G,a,k,s.trans b,c⟩⟩
def mY (C:Pc) (t:mD):TS:=λn σ H=>∃W p F E,RS (C.add W) p σ F H/\cI C W/\t E W p/\(E.dn C F).Le n
section
variable {X:Cx} {C:Pc} {a b c e:Expr} {pos:Pos} {K:PySem.W.Frag} {p:aG} {σ:St} {F H:Hp} {st:Stmt} {rest:List Stmt} {t u:mD}
theorem VS.mk {t:TS} (h:PS X st t) (hi:∀W p σ F H E,RS (C.add W) p σ F H->cI C W->t' E W p->t (E.dn C F) σ H):PS X st (mY C t'):=λpins s σ H D I n=>by
 obtain ⟨W,p,F,E,z,ok,B,l⟩:=n
 exact bh (h pins s σ H _ I (hi W p σ F H E z ok B)) λ_ _ q=>q.le l
theorem VSs.mk {t:TS} (h:fX X sts t) (hi:∀W p σ F H E,RS (C.add W) p σ F H->cI C W->t' E W p->t (E.dn C F) σ H):fX X sts (mY C t'):=λpins s σ H D I n=>by
 obtain ⟨W,p,F,E,z,ok,B,l⟩:=n
 exact bh (h pins s σ H _ I (hi W p σ F H E z ok B)) λ_ _ q=>q.le l
def Ke (t:Hp->iu):mD:=λE W p=>t W { nx:=E.nx W,rt:=λr=>E.rt r W,bk:=E.bk W,ct:=E.ct W } p
theorem Qa {E:jC} (ok:cI C W):(gY.dn (C.add W) F { nx:=E.nx W,rt:=λr=>E.rt r W,bk:=E.bk W,ct:=E.ct W }).Le (E.dn C F):=
 ⟨λ_ _ n=>by obtain ⟨p,G,a,b,c⟩:=n;exact ⟨W,p,G,a,ok,b,c⟩,λ_ _ n=>by obtain ⟨r,p,σ,G,a,b,c,d⟩:=n;exact ⟨r,W,p,σ,G,a,ok,b,c,d⟩,λ_ _ n=>by obtain ⟨p,G,a,b,c⟩:=n;exact ⟨W,p,G,a,ok,b,c⟩,λ_ _ n=>by obtain ⟨p,G,a,b,c⟩:=n;exact ⟨W,p,G,a,ok,b,c⟩⟩
theorem aW {t:Hp->iu} (h:∀W,cI C W->PS X st (iw (C.add W) (t W))):PS X st (mY C (Ke t)):=λpins s σ H D I n=>by
 obtain ⟨W,p,F,E,z,ok,B,l⟩:=n
 exact h W ok pins s σ H D I ⟨p,F,_,z,B,(Qa ok).trans l⟩
def Kf:mD:=λE W p=>E.nx W p
def sW (t u:mD):mD:=λE W p=>t { E with nx:=u E } W p
theorem Zy:fX X [] (mY C Kf):=VSs.mk uw λW p σ F H E n ok q=>⟨W,p,F,n,ok,.refl _,q⟩
theorem aU (Y:PS X st (mY C t)) (U:fX X rest (mY C u)):fX X (st::rest) (mY C (sW t u)):=
 VSs.mk (wk Y U) λW p σ F H E J ok q=>⟨W,p,F,_,J,ok,q,⟨λB H1 D=>by obtain ⟨Z,O,F1,n,z,I,q1⟩:=D;exact ⟨Z,O,F1,E,n,z,q1,uX I⟩,λ_ _ h=>h,λ_ _ h=>h,λ_ _ h=>h⟩⟩
theorem d8 (n:PS X st (mY C t)):fX X [st] (mY C t):=Dr n
def jC.of (E:gY):jC:={ nx:=λ_=>E.nx,rt:=λr _=>E.rt r,bk:=λ_=>E.bk,ct:=λ_=>E.ct }
theorem Jd.un (h:Jd (C.add W) p σ F H r v):Jd C p σ F H r v:=by
 cases r with
 | rd x=>exact h
 | ro xs=>obtain ⟨y,vs,J,I,D,B,z,n⟩:=h;exact ⟨y,vs,J,I,(iz D).2,B,z,n⟩
theorem of_le {E:gY}:((jC.of E).dn C F).Le (E.dn C F):=⟨λ_ _ n=>by obtain ⟨W,p,G,a,k,b,c⟩:=n;exact ⟨p,G,a.un k,b,c⟩,λ_ _ n=>by obtain ⟨r,W,p,σ,G,a,k,b,c,d⟩:=n;exact ⟨r,p,σ,G,a.un k,b,c.un,d⟩,λ_ _ n=>by obtain ⟨W,p,G,a,k,b,c⟩:=n;exact ⟨p,G,a.un k,b,c⟩,λ_ _ n=>by obtain ⟨W,p,G,a,k,b,c⟩:=n;exact ⟨p,G,a.un k,b,c⟩⟩
def V8 (t:mD):iu:=λE p=>t (jC.of E) Hp0 p
theorem Cq (h:fX X sts (mY C t)):fX X sts (iw C (V8 t)):=λpins s σ H D I n=>by
 obtain ⟨p,F,E,z,B,l⟩:=n
 exact h pins s σ H D I ⟨Hp0,p,F,_,z,.nil C,B,of_le.trans l⟩
def acT (C:Pc) (t:Hp->TQ):TE:=λσ H Q=>∃W,cI C W/\Up (C.add W) (t W) σ H Q
def acU (C:Pc) (t:Hp->mQ):TT:=λσ H Q=>∃W,cI C W/\gj (C.add W) (t W) σ H Q
def acV (C:Pc) (t:Hp->TAQ):TA:=λσ H Q=>∃W,cI C W/\gA (C.add W) (t W) σ H Q
def Zz (C:Pc) (t:Hp->sE):TI:=λσ H Q=>∃W,cI C W/\vZ (C.add W) (t W) σ H Q
def acW (C:Pc) (t:Hp->pQ):TG:=λv σ H Q=>∃W,cI C W/\Gs (C.add W) (t W) v σ H Q
theorem sX {t:Hp->TQ} (h:∀W,cI C W->PE X e (Up (C.add W) (t W))):PE X e (acT C t):=λpins s σ H Q I n=>by obtain ⟨W,ok,z⟩:=n;exact h W ok pins s σ H Q I z
theorem ZC {t:Hp->mQ} (h:∀W,cI C W->PT X e (gj (C.add W) (t W))):PT X e (acU C t):=λpins s σ H Q I n=>by obtain ⟨W,ok,z⟩:=n;exact h W ok pins s σ H Q I z
theorem ZD {t:Hp->TAQ} (h:∀W,cI C W->PA X es (gA (C.add W) (t W))):PA X es (acV C t):=λpos pins s σ H Q I n=>by obtain ⟨W,ok,z⟩:=n;exact h W ok pos pins s σ H Q I z
theorem ZF {t:Hp->sE} (h:∀W,cI C W->PI X tg it (vZ (C.add W) (t W))):PI X tg it (Zz C t):=λpins s σ H Q I n=>by obtain ⟨W,ok,z⟩:=n;exact h W ok pins s σ H Q I z
theorem acX {t:Hp->pQ} (h:∀W,cI C W->PG X tg (Gs (C.add W) (t W))):PG X tg (acW C t):=λpins s σ H v u Q I r n=>by obtain ⟨W,ok,z⟩:=n;exact h W ok pins s σ H v u Q I r z
def Qd (ti:Hp->sE) (g:Hp->pQ) (B:mD):mD:=λE W p=>ti W p λn item J=>∃I:Nat->Hp->aG->Prop,I 0 W J/\(∀i z p2,i<n->I i z p2->g z (item i) p2 λD=>B { E with nx:=I (i+1),ct:=I (i+1),bk:=E.nx } z D)/\∀z p2,I n z p2->E.nx z p2
theorem q_ (hp:PassesOwn (model X.prog X.w) X.A X.env X.xe) (hc:X.calm=true) (hi:∀W,cI C W->PI X tg iter (vZ (C.add W) (ti W))) (hg:∀W,cI C W->PG X tg (Gs (C.add W) (g W))) (hb:fX X body (mY C tb))
  (hs:∀x,foldedSetIterable iter X.env x=pure x:=by intro _;rfl):PS X (.For tg iter body [] pos) (mY C (Qd ti g tb)):=
 VS.mk (HB hp hc (ZF hi) (acX hg) hb hs) λW p σ F H E rs ok ht=>⟨W,ok,p,F,_,rs,ht,λJ H1 z=>by
  obtain ⟨n,item,p1,F1,Ea,s1,Ny,jq,I,i0,Z,B_⟩:=z
  refine ⟨λi m σ H=>m=n - i/\i<=n/\∃W p F,RS (C.add W) p σ F H/\cI C W/\aM F1 F/\I i W p,⟨n,by simp,yN _,W,p1,F1,Ea,ok,.refl _,i0⟩,?_⟩
  rintro i m σ2 H2 ⟨rfl,hi,W2,p2,F2,D,Y,s2,i2⟩
  by_cases O:i<n
  ·refine .inr ⟨jq.go i F2 H2 D.sub s2 O,λσ' H'=>∃W p F,RS (C.add W) p σ' F H'/\cI C W/\aM F1 F/\I (i+1) W p,λσ' H' h=>⟨n - (i+1),by omega,rfl,O,h⟩,λx H' y=>?_⟩
   obtain ⟨F3,G_,s3,r3⟩:=JQ.out (C:=C.add W2) jq D s2 O y
   refine ⟨W2,Y,p2,F3,item i,_,G_,r3,Z i W2 p2 O i2,λσ4 H4 ⟨p4,F4,Pn,s4,q4⟩=>⟨W2,p4,F4,_,Pn,Y,q4,?_⟩⟩
   have B:aM F1 F4:=s2.trans (s3.trans s4)
   exact ⟨λ_ _ z=>by obtain ⟨W5,U,F5,a,k,b,c⟩:=z;exact ⟨W5,U,F5,a,k,B.trans b,c⟩,λ_ _ z=>by obtain ⟨r,W5,U,σ5,F5,a,k,b,c⟩:=z;exact ⟨r,W5,U,σ5,F5,a,k,s1.trans (B.trans b),c⟩,λ_ _ z=>by obtain ⟨W5,U,F5,a,k,b,c⟩:=z;exact ⟨W5,U,F5,a,k,s1.trans (B.trans b),c⟩,λ_ _ z=>by obtain ⟨W5,U,F5,a,k,b,c⟩:=z;exact ⟨W5,U,F5,a,k,B.trans b,c⟩⟩
  ·have e:i=n:=by omega
   subst e
   exact .inl ⟨jq.stop F2 H2 D.sub s2,W2,p2,F2,D,Y,s1.trans s2,B_ W2 p2 i2⟩⟩
def Kg (c:Hp->mQ) (D:mD):mD:=λE W p=>∃(I:Hp->aG->Prop) (n:aG->Nat),I W p/\∀B z,I B z->c B z λb p2=>if b=true then D { E with nx:=λW q=>I W q/\n q<n z,ct:=λW q=>I W q/\n q<n z,bk:=E.nx } B p2 else E.nx B p2
theorem Qe {c:Expr} (hp:PassesOwn (model X.prog X.w) X.A X.env X.xe) (hc:∀W,cI C W->PT X c (gj (C.add W) (tc W))) (hb:fX X body (mY C tb)):PS X (.While c body [] pos) (mY C (Kg tc tb)):=
 VS.mk (wB hp (ZC hc) hb) λW p σ F H E rs ok n=>by
  obtain ⟨I,μ,i0,step⟩:=n
  refine ⟨λm Z H1=>∃B Y F1,RS (C.add B) Y Z F1 H1/\cI C B/\aM F F1/\I B Y/\m=μ Y,⟨_,W,p,F,rs,ok,.refl _,i0,rfl⟩,?_⟩
  rintro m Z H1 ⟨B,Y,F1,Ea,J,s1,i1,rfl⟩
  refine ⟨B,J,pG Ea (step B Y i1) λk p2 F2 H2 XS s2 sh q=>?_⟩
  refine dB (λq=>?_) (λq=>?_) q
  ·refine ⟨λσ' H'=>∃W' p' F',RS (C.add W') p' σ' F' H'/\cI C W'/\aM F F'/\I W' p'/\μ p'<μ Y,λσ' H' n=>by obtain ⟨W',p',F',z1,z0,z2,z3,z4⟩:=n;exact ⟨_,z4,W',p',F',z1,z0,z2,z3,rfl⟩,B,p2,F2,_,XS,J,q,?_⟩
   have z:=s1.trans s2
   exact ⟨λ_ _ n=>by obtain ⟨O,D,U,a,k,b,c,d⟩:=n;exact ⟨O,D,U,a,k,z.trans b,c,d⟩,λ_ _ n=>by obtain ⟨r,O,D,σ5,U,a,k,b,c⟩:=n;exact ⟨r,O,D,σ5,U,a,k,z.trans b,c⟩,λ_ _ n=>by obtain ⟨O,D,U,a,k,b,c⟩:=n;exact ⟨O,D,U,a,k,z.trans b,c⟩,λ_ _ n=>by obtain ⟨O,D,U,a,k,b,c,d⟩:=n;exact ⟨O,D,U,a,k,z.trans b,c,d⟩⟩
  ·exact ⟨B,p2,F2,XS,J,s1.trans s2,q⟩
end
structure R5 (K:PySem.W.Frag) (F H W:Hp) (r:D) (v:V) (W' F' H':Hp):Prop where
 ext:aM F F'
 sub:aM F' H'
 new:∀a o,F' a=some o->F a=some o\/H a=none\/W a≠none\/∃xs,o=.tup xs
 keep:∀a o,H a=some o->W a=none->H' a=some o
 wH:∀a o,W' a=some o->H' a=some o/\F' a=none/\Zw o/\(W a≠none\/H a=none)
 res:Rep K F' r v
abbrev Ei:=Hp->List D->(D->Hp->Prop)->Prop
def Hf (K:PySem.W.Frag) (S:Ei):Sp:=λvs H Q _=>∃W ds F R,aM F H/\(∀a o,W a=some o->H a=some o/\F a=none/\Zw o)/\aK K F ds vs/\S W ds R/\∀r v n z H',R5 K F H W r v n z H'->R r n->Q v H'
section
variable {X:Cx} {C:Pc} {W:Hp} {p:aG} {σ:St} {F H:Hp} {a:Addr} {o:HO}
theorem RS.Kh {r:D} {v:V} {W' Y H':Hp} (rs:RS (C.add W) p σ F H) (ok:cI C W) (po:R5 C.K F H W r v W' Y H'):RS (C.add W') p σ Y H'/\cI C W':=by
 have B:=rs.un ok
 have fr:∀b vs,W b=none->F b=none->H b=some (.lst vs)->Y b=none/\H' b=some (.lst vs):=λb vs h1 h2 h3=>by
  have hk:=po.keep b _ h3 h1
  refine ⟨?_,hk⟩
  cases q:Y b with
  | none=>rfl
  | some u=>
   rcases po.new b u q with z|z|z|⟨xs,z⟩
   ·rw [h2] at z;cases z
   ·rw [h3] at z;cases z
   ·exact absurd h1 z
   ·have:=po.sub b u q
    rw [hk,z] at this;cases this
 have bW:∀q∈C.bs,W q.2=none:=λq J=>by
  cases e:W q.2 with
  | none=>rfl
  | some u=>exact absurd rfl (ok.bs _ u e q J)
 have nH:∀b,H b=none->C.H0 b=none:=λb e=>by
  cases q:C.H0 b with
  | none=>rfl
  | some u=>exact absurd e (B.grow b (by rw [q];intro z;cases z))
 have h0':∀b u,W' b=some u->C.H0 b=none:=λb u e=>by
  rcases (po.wH b u e).2.2.2 with z|z
  ·cases q:W b with
   | none=>exact absurd q z
   | some w=>exact ok.h0 b w q
  ·exact nH b z
 refine ⟨RS.ad ⟨po.sub,B.ext.trans po.ext,λb u e=>?_,λb u e n=>po.keep b u (B.keep b u e n) (ok.non e),λb n z=>?_,B.len,λi s e=>?_,B.apart,B.pin⟩ (λb u e=>⟨(po.wH b u e).1,(po.wH b u e).2.1⟩) (λi xs b e e1=>?_),⟨λb u e=>(po.wH b u e).2.2.1,h0',λb u e=>?_,λb u e q J z=>?_⟩⟩
 ·rcases po.new b u e with z|z|z|z
  ·exact B.new b u z
  ·exact .inr (.inl (nH b z))
  ·cases q:W b with
   | none=>exact absurd q z
   | some w=>exact .inr (.inl (ok.h0 b w q))
  ·exact .inr (.inr z)
 ·cases q:C.H0 b with
  | none=>exact n q
  | some u=>
   cases q2:H b with
   | none=>exact B.grow b n q2
   | some u2=>rw [po.keep b u2 q2 (ok.non q)] at z;cases z
 ·obtain ⟨w,e1,r⟩:=B.sl i s e
  refine ⟨w,e1,?_⟩
  cases s with
  | d x=>exact Rep.mono po.ext r
  | own xs=>
   obtain ⟨b,vs,rfl,I,U,O,Z⟩:=r
   obtain ⟨y1,y2⟩:=fr b vs (rs.wO e e1).1 I O
   exact ⟨b,vs,rfl,y1,U,y2,Z.mono po.ext⟩
  | bor xs=>
   obtain ⟨b,vs,rfl,I,⟨q,J,U⟩,O,Z⟩:=r
   obtain ⟨y1,y2⟩:=fr b vs (U▸bW q J) I O
   exact ⟨b,vs,rfl,y1,⟨q,J,U⟩,y2,Z.mono po.ext⟩
 ·obtain ⟨z1,vs,I⟩:=rs.wO e e1
  cases q:W' b with
  | none=>rfl
  | some u=>
   rcases (po.wH b u q).2.2.2 with z|z
   ·exact absurd z1 z
   ·rw [I] at z;cases z
 ·cases q:C.F0 b with
  | none=>rfl
  | some w=>
   have:=(B.ext.trans po.ext) b w q
   rw [(po.wH b u e).2.1] at this;cases this
 ·rcases (po.wH b u e).2.2.2 with y|y
  ·exact y (z▸bW q J)
  ·obtain ⟨z1,xs,I⟩:=B.pin q J
   obtain ⟨w,e1,c,vs,e2,_,_,O,_⟩:=B.sl _ _ I
   rw [z1] at e1;cases e1;cases e2
   rw [z,y] at O;cases O
end
abbrev Km:=Hp->aG->(D->Hp->aG->Prop)->Prop
def y_ (C:Pc) (t:Km):TE:=λσ H Q=>∃W p F R,RS (C.add W) p σ F H/\cI C W/\t W p R/\∀d v n z F1 H1,RS (C.add n) z σ F1 H1->cI C n->aM F F1->Rep C.K F1 d v->R d n z->Q v H1
section
variable {X:Cx} {C:Pc} {a b c e o k:Expr} {es:List Expr} {pos:Pos} {K:PySem.W.Frag} {p:aG} {σ:St} {F H:Hp} {st:Stmt} {rest:List Stmt} {t u:mD}
def Ko (S:Ei) (t:Hp->TAQ):Km:=λW p Q=>t W p λes n=>∃ds,Nu es=some ds/\S W ds λr z=>Q r z n
theorem lN {st:Stmt} {k:Nat} (hK:X.K=C.K) (D:aF X.K X.mg x st ps) (G:bO X.prog X.w X.K X.mg X.base lB k D.f D.fd ps (Hf X.K S)) (hr:bI k X.A) (ha:∀W,cI C W->PA X (e::es) (gA (C.add W) (cz W)))
  (hg:Gl X x:=by rfl) (U:(x == ("__debug__":Str))=false:=by decide) (he:starEach (e::es) X.env=(false,eval e X.env)::starEach es X.env:=by rfl) (hpl:(backTo pos (starEach es X.env)).any (·.1)=false:=by rfl) :
  PE X (.Call (.Name x p0) (e::es) [] pos) (y_ C (Ko S cz)):=λpins s σ H Q I B=>by
 obtain ⟨W,p,F,R,rs,ok,ht,hq⟩:=B
 refine qy D G hr (ZD ha) hg U he hpl pins s σ H Q I ?_
 refine ⟨W,ok,dz rs ht λes1 p1 Z F1 H1 n s1 sh Y B=>?_⟩
 obtain ⟨ds,h1,q⟩:=B
 rw [ya,hK]
 refine ⟨W,ds,F1,_,n.sub,λb u z=>⟨n.wH ok z,n.wF ok z,ok.lst b u z⟩,qN (C:=C.add W) Y h1,q,λr v W' F' H' po hR=>?_⟩
 obtain ⟨J,O⟩:=RS.Kh n ok po
 exact hq r v W' p1 F' H' J O (s1.trans po.ext) po.res hR
def V9 (i:Nat) (t:Km):mD:=λE W p=>t W p λd z n=>pA n i=true/\E.nx z (n.set i (some (.d d)))
theorem tZ {t:Km} (hN:X.N.Nodup) (hi:X.N[i]? = some x) (O:Loc X.env.scope x) (he:PE X e (y_ C t)) (Y:swapsWith e (some (.Name x pos')) pos.line X.env=pure false:=by rfl) (hf:X.fn x=true\/X.env.scope.names.lookup x=some .local:=by first|exact .inl rfl|exact .inr rfl|assumption) :
  PS X (.Assign [.Name x pos'] e pos) (mY C (V9 i t)):=
 VS.mk (Bg hN hi O he Y hf) λW p σ F H E I ok U=>⟨W,p,F,_,I,ok,U,λd v W1 p1 F1 H1 n z D J B=>by obtain ⟨Z,q⟩:=B;exact ⟨W1,_,F1,n.uO Z J,z,D,q⟩⟩
def Kq (t:Km):mD:=λE W p=>t W p λ_ z n=>E.nx z n
theorem Kr {t:Km} (he:PE X e (y_ C t)) (O:swapsWith e none pos.line X.env=pure false:=by rfl):PS X (.Expr e pos) (mY C (Kq t)):=
 VS.mk (Ds he O) λW p σ F H E D ok J=>⟨W,p,F,_,D,ok,J,λd v U I F1 H1 n z B Y q=>⟨U,I,F1,n,z,B,q⟩⟩
def vd:V->D
 | .int n=>.int n
 | v=>.atom v
theorem R6 (v:V) (F:Hp):Rep K F (vd v) v:=by cases v<;>first|exact .int _|exact .atom _
def V_ (W:Hp) (z n:TQ):TQ:=λp Q=>z p λe1 B=>n B λe2 p2=>∃x vs k v,lk p2 e1=.atom (.ref x)/\W x=some (.lst vs)/\lk p2 e2=.int k/\h_ vs k=some v/\Q (.fz (vd v)) p2
theorem gD {D:TQ} (ok:cI C W) (hK:X.K=C.K) (ha:PE X a (Up (C.add W) ta)) (Z:PE X b (Up (C.add W) D)) (Y:mK b):PE X (.Subscript a b pos) (Up (C.add W) (V_ W ta D)):=
 QE.mk (HX (Ij hK) ha Z Y) λp σ F H R O U=>tV O U λe1 e2 p1 v1 v2 F1 H1 n J sh B z I=>by
  obtain ⟨x,vs,k,v,h1,h2,h3,h4,q⟩:=I
  rw [aP z h3,cZ B h1]
  exact ⟨x,vs,k,v,rfl,rfl,.of (n.wH ok h2),h4,aY n J sh (R6 v F1) q⟩
theorem Gy:Yj X (λo i H Q=>∃p xs k v,o=.ref p/\i=.int k/\H p=some (.lst xs)/\0<=k/\xs[k.toNat]? = some v/\Q v H):=by
 intro pins s σ H o i Y Z Q I B D h
 obtain ⟨p,xs,k,v,rfl,rfl,O,h0,z,q⟩:=h
 cases B
 obtain ⟨t,rfl⟩:=D
 obtain ⟨J,r,pl,hz⟩:=I.list (iI.of O)
 obtain ⟨w,U,n⟩:=r.get z
 have hl:=r.length
 have hn:=lz
 have hk:k.toNat<xs.length:=(zx.mp z).1
 exact wpAny_getItem_list pl.isList h0 (by omega) (by simpa using U) ⟨v,H,I,n,q⟩
def Ks (I B D:Hp->TQ):mD:=λE W p=>I W p λev J=>B W J λO p2=>D W p2 λU z=>∃x vs n k j,lk z ev=.int n/\lk z O=.atom (.ref x)/\W x=some (.lst vs)/\lk z U=.int k/\wL vs.length k=some j/\E.nx (upd W x (.lst (vs.set j (.int n)))) z
theorem Wa {pt : Pos} (he : ∀ W, cI C W → PE X e (Up (C.add W) (te W))) (ho : ∀ W, cI C W → PE X o (Up (C.add W) (to W))) (hk : ∀ W, cI C W → PE X k (Up (C.add W) (tk W)))
    (ha : ∀ v, assign (.Subscript o k pt) X.env v = (do
      let ov ← holding [v] (eval o X.env)
      let iv ← holding [v, ov] (eval k X.env)
      standAt pt
      holding [v, ov, iv] (setItem ov iv v)
      release [v, ov, iv] []) := by intro _; rfl)
    (hs : swapsWithSole [.Subscript o k pt] e pos.line X.env = pure false := by rfl) (hw : swappedStores [.Subscript o k pt] e X.env = pure none := by rfl)
    (h1 : (assignEach [.Subscript o k pt] X.env).map (·.2) = [assign (.Subscript o k pt) X.env] := by rfl) :
    PS X (.Assign [.Subscript o k pt] e pos) (mY C (Ks te to tk)) :=
  VS.mk (Bf (sX he) (Hx (sX ho) (sX hk) set_list ha) hs hw h1) λW p σ F H E rs ok D => ⟨W, ok, up1 rs D λe1 p1 v1 F1 H1 Y s1 Ny Gz D =>
    ⟨W, ok, up1 Y D λe2 p2 v2 F2 H2 U s2 I xN D => ⟨W, ok, up1 U D λe3 p3 v3 F3 H3 B J z er3 zq=>by
      obtain ⟨x, vs, n, k, j, g1, g2, g3, g4, g5, q⟩:=zq
      rw [aP er3 g4, cZ (xN.mono J z) g2, aP ((Gz.mono s2 I).mono J z) g1]
      obtain ⟨O, Z⟩ := B.Zx (us := vs.set j (.int n)) ok g3
      exact ⟨x, vs, k, j, rfl, rfl, B.wH ok g3, g5, _, p3, F3, O, Z, s1.trans (s2.trans J), q⟩⟩⟩⟩
def Ku (g:Int->Int->Int) (B D I:Hp->TQ):mD:=λE W p=>B W p λO J=>D W J λU p2=>∃x vs k n,lk p2 O=.atom (.ref x)/\W x=some (.lst vs)/\lk p2 U=.int k/\0<=k/\vs[k.toNat]? = some (.int n)/\I W p2 λev z=>∃m,lk z ev=.int m/\E.nx (upd W x (.lst (vs.set k.toNat (.int (g n m))))) z
theorem pX {k:Int} (h0:0<=k) (h:k.toNat<n):wL n k=some k.toNat:=by
 unfold wL
 rw [zo h0,zo (by omega)]
theorem Kv (Z : Ye X op (ipI g)) (ho : ∀ W, cI C W → PE X o (Up (C.add W) (to W))) (hk : ∀ W, cI C W → PE X k (Up (C.add W) (tk W))) (he : ∀ W, cI C W → PE X e (Up (C.add W) (te W)))
    (ha : ∀ ov iv new, augStore k ov iv new = (do holding [new, ov, iv] (setItem ov iv new); release [new, ov, iv] []; pure .next) := by intros; rfl) :
    PS X (.AugAssign (.Subscript o k tpos) op e pos) (mY C (Ku g to tk te)) :=
  VS.mk (N7 (sX ho) (sX hk) Gy (sX he) Z set_list ha) λW p σ F H E rs ok D => ⟨W, ok, up1 rs D λe1 p1 v1 F1 H1 U s1 Ny Gz D =>
    ⟨W, ok, up1 U D λe2 p2 v2 F2 H2 B s2 J xN I=>by
      obtain ⟨x, vs, k, n, g1, g2, g3, g4, g5, D⟩:=I
      rw [aP xN g3, cZ (Gz.mono s2 J) g1]
      refine ⟨x, vs, k, .int n, rfl, rfl, B.wH ok g2, g4, g5, W, ok, up1 B D λe3 p3 v3 F3 H3 z s3 sh3 er3 I=>?_⟩
      obtain ⟨m, g6, q⟩:=I
      rw [aP er3 g6]
      obtain ⟨O, Y⟩ := z.Zx (us := vs.set k.toNat (.int (g n m))) ok g2
      exact ⟨n, m, rfl, rfl, x, vs, k, k.toNat, rfl, rfl, z.wH ok g2, pX g4 (zx.mp g5).1, _, p3, F3, O, Y, s1.trans (s2.trans s3), q⟩⟩⟩
end
section
variable {P:Program} {w:World} {K:PySem.W.Frag} {mg:Str->Option Value} {base:Heap}
theorem sy.ZG {x O:Str} {st:Stmt} {f:Addr} {fd:FuncData} {N ps:List Str} {k:Nat} {S:Ei} (Fn:sy K x O st f fd) (Sc:ao N ps (aa st)) (len:∀W ds R,S W ds R->ds.length=ps.length)
  (hbody:∀(U:Value) (A:Around) (outer:List Env) (s:Shared) (H:Hp) (E:XK) (C:Pc) (W:Hp) (ds:List D) (R:D->Hp->Prop),C.bs=[]->K=C.K->bI k (A.deeper (envOfC O (aa st) s.heap.objs.size f U))->S W ds R->
   ∃t,fX (d9 lB P w K mg base N O (aa st) f U A outer s H E).RB (cY st) (mY C t)/\t { nx:=λW' _=>R .non W',rt:=λr W' _=>∃d,r=.rd d/\R d W' } W (bM N (ds.map Sl.d))):bO P w K mg base lB (k+1) f fd ps (Hf K S):=by
 refine Fn.ok Sc (λvs H Q E h=>?_) (λU A outer s H vs Q E hr h=>?_)
 ·obtain ⟨W,ds,F,R,h1,h2,h3,h4,h5⟩:=h
  rw [<-h3.length];exact len W ds R h4
 obtain ⟨W,ds,F,R,Y7,hW,rl,hS,hq⟩:=h
 let C:Pc:=⟨K,F,λa=>match W a with|some _=>none|none=>H a,[]⟩
 have hC:∀a,C.H0 a=(match W a with|some _=>none|none=>H a):=λa=>rfl
 have hb:=hbody U A outer s H E C W ds R rfl rfl hr hS
 obtain ⟨t,ht,tq⟩:=hb
 have ok:cI C W:=⟨λa o e=>(hW a o e).2.2,λa o e=>by rw [hC,e],λa o e=>(hW a o e).2.1,λa o e q hq=>nomatch hq⟩
 have h0:∀a,(C.add W).H0 a=H a:=λa=>by
  cases e:W a with
  | none=>rw [gC e,hC,e]
  | some o=>rw [iQ e,(hW a o e).1]
 have Z:∀(i:Nat) (s:Sl),(bM N (ds.map Sl.d))[i]? = some (some s)->∃d,s=.d d/\ds[i]? = some d:=λi s h=>by
  unfold bM at h
  by_cases hi:i<ds.length
  ·rw [zS (by simpa using hi)] at h
   rw [zP,zP] at h
   cases e:ds[i]? with
   | none=>rw [e] at h;cases h
   | some d=>rw [e] at h;cases h;exact ⟨d,rfl,rfl⟩
  ·rw [yf (by simpa using xE hi),zX] at h
   split at h<;>cases h
 have acZ:∀(i:Nat) (v:V),vs[i]? = some v->(start N vs)[i]? = some (some v):=λi v h=>by
  unfold start
  have hi:=(zx.mp h).1
  rw [zS (by simpa using hi)]
  simpa using h
 have rs:RS (C.add W) (bM N (ds.map Sl.d)) (start N vs) F H:=by
  refine ⟨Y7,.refl _,λa o h=>.inl h,λa o h _=>by rw [h0] at h;exact h,λa h=>by rw [h0] at h;exact h,?_,λi s h=>?_,λi j s s' a hij e1 m1 e2 m2 x1 x2=>?_,λq hq=>nomatch hq⟩
  ·unfold bM start
   rw [zt,zt,z9,z9,z9,zF,zF,rl.length]
  ·obtain ⟨d,rfl,h1⟩:=Z i s h
   obtain ⟨v,h2,h3⟩:=rl.get h1
   exact ⟨v,acZ i v h2,h3⟩
  ·obtain ⟨d,rfl,_⟩:=Z i s e1
   cases m1
 have fin:∀(d:D) (Y:Hp) (p1:aG) (J:St) (v:V) (F1 H1:Hp),RS (C.add Y) p1 J F1 H1->cI C Y->Rep K F1 d v->R d Y->Q v H1:=λd Y p1 J v F1 H1 I B rr q=>by
  have XS:=I.un B
  refine hq d v Y F1 H1 ⟨XS.ext,XS.sub,λa o e=>?_,λa o e n=>XS.keep a o (by rw [hC,n];exact e) (λq hq=>nomatch hq),λa o e=>⟨I.wH B e,I.wF B e,B.lst a o e,?_⟩,rr⟩ q
  ·cases e2:W a with
   | some u=>exact .inr (.inr (.inl (by intro z;cases z)))
   | none=>
    rcases I.new a o e with z|z|z
    ·exact .inl z
    ·obtain ⟨z1,z2⟩:=iz z
     rw [hC,e2] at z2
     exact .inr (.inl z2)
    ·exact .inr (.inr (.inr z))
  ·have:=B.h0 a o e
   rw [hC] at this
   cases e2:W a with
   | none=>rw [e2] at this;exact .inr this
   | some u=>exact .inl (by intro z;cases z)
 refine ⟨_,ht,W,bM N (ds.map Sl.d),F,_,rs,ok,tq,⟨λJ H1 zq=>?_,λv H1 zq=>?_,λ_ _ ⟨_,_,_,_,_,_,z⟩=>z.elim,λ_ _ ⟨_,_,_,_,_,_,z⟩=>z.elim⟩⟩
 ·obtain ⟨Y,p1,F1,I,B,s1,q⟩:=zq
  exact fin .non Y p1 J .non F1 H1 I B .non q
 ·obtain ⟨r,Y,p1,J,F1,I,B,s1,rr,d,hr,q⟩:=zq
  subst hr
  exact fin d Y p1 J v F1 H1 I B rr q
theorem sy.XX {x n:Str} {st:Stmt} {f:Addr} {fd:FuncData} {N ps:List Str} {k:Nat} {S:Ei} (J:sy K x n st f fd) (I:ao N ps (aa st)) (len:∀W ds R,S W ds R->ds.length=ps.length)
  (B:∀(z:Value) (A:Around) (outer:List Env) (s:Shared) (H:Hp) (E:XK) (C:Pc) (W:Hp) (ds:List D) (R:D->Hp->Prop),K=C.K->bI k (A.deeper (envOfC n (aa st) s.heap.objs.size f z))->S W ds R->
   ∃t,fX (d9 lB P w K mg base N n (aa st) f z A outer s H E).RB (cY st) (mY C t)/\t { nx:=λW' _=>R .non W',rt:=λr W' _=>∃d,r=.rd d/\R d W' } W (bM N (ds.map Sl.d))):bO P w K mg base lB (k+1) f fd ps (Hf K S):=J.ZG I len λz A outer s H E C W ds R _=>B z A outer s H E C W ds R
end
structure t6 (W:Hp) (bs:List Addr) (ms:List (List Int)):Prop where
 len:bs.length=ms.length
 nd:bs.Nodup
 at_:∀(i:Nat) (b:Addr) (ns:List Int),bs[i]? = some b->ms[i]? = some ns->W b=some (.lst (ns.map V.int))
def Hi (W:Hp) (a:Addr) (n:List (List Int)):Prop:=∃bs,W a=some (.lst (bs.map V.ref))/\a ∉ bs/\t6 W bs n
def Qf (W n:Hp):Prop:=∀b o,W b=some o->n b=some o
def R7 (C:Pc) (k:Nat) (t:TN):TE:=λσ H Q=>∃W,cI C W/\lD ((C.add W).sh k) t σ H Q
def R8 (C:Pc) (k:Nat) (t:mQ):TT:=λσ H Q=>∃W,cI C W/\gj ((C.add W).sh k) t σ H Q
def R9 (C:Pc) (k:Nat) (g:pQ):TG:=λv σ H Q=>∃W,cI C W/\pH ((C.add W).sh k) k g v σ H Q
def Kw (k:Nat) (ti:Hp->sE) (g:pQ) (J:mQ) (O:TN):Hp->aG->(Addr->Hp->aG->Prop)->Prop:=λW p R=>ti W p λn item Z=>∃I:Nat->List (List Int)->aG->Prop,I 0 [] (List.replicate k none++Z)/\n<=100000 /\
 (∀i ys p2,i<n->I i ys p2->ys.length<=i/\g (item i) p2 λY=>J Y λb B=>if b=true then O B λr U=>∃ns:List Int,r=.ro (ns.map D.int)/\I (i+1) (ys++[ns]) U else I (i+1) ys B) /\
 ∀ys p2,I n ys p2->∀x z,Hi z x ys->Qf W z->R x z (p2.drop k)
section
variable {X:Cx} {C:Pc} {W:Hp} {p:aG} {σ:St} {F H:Hp} {k:Nat} {pos:Pos}
theorem cI.sh (ok:cI C W):cI (C.sh k) W:=⟨ok.lst,ok.h0,ok.f0,λa o e q B=>by
 obtain ⟨q',n,z⟩:=zZ.mp B
 rw [<-z];exact ok.bs a o e q' n⟩
theorem cI.ac0 (ok:cI (C.sh k) W):cI C W:=⟨ok.lst,ok.h0,ok.f0,λa o e q n=>ok.bs a o e (q.1+k,q.2) (zZ.mpr ⟨q,n,rfl⟩)⟩
theorem t6.nil:t6 W [] []:=⟨rfl,List.nodup_nil,λi b ns h=>by simp at h⟩
theorem t6.mem {bs:List Addr} {n:List (List Int)} {b:Addr} (r:t6 W bs n) (h:b∈bs):∃ns,W b=some (.lst (List.map V.int ns)):=by
 obtain ⟨i,hi,e⟩:=xw h
 have h1:bs[i]? = some b:=by rw [zd hi,e]
 obtain ⟨ns,h2⟩:∃ns,n[i]? = some ns:=by
  have z:i<n.length:=by rw [<-r.len];exact hi
  exact ⟨_,zd z⟩
 exact ⟨ns,r.at_ i b ns h1 h2⟩
theorem t6.snoc {bs:List Addr} {D:List (List Int)} {ns:List Int} (r:t6 W bs D) (h:W a=none):t6 (upd W a (.lst (ns.map V.int))) (bs++[a]) (D++[ns]):=by
 have B:a ∉ bs:=λz=>by
  obtain ⟨ns,e⟩:=r.mem z
  rw [e] at h;cases h
 refine ⟨by rw [zt,zt,r.len];rfl,List.nodup_append.mpr ⟨r.nd,by simp,λx J y I=>?_⟩,λi b n h1 h2=>?_⟩
 ·rw [zD] at I;subst I
  exact λz=>B (z▸J)
 ·by_cases hi:i<bs.length
  ·rw [zS hi] at h1
   rw [zS (by rw [<-r.len];exact hi)] at h2
   have O:b≠a:=λz=>B (z▸yH h1)
   rw [aC O];exact r.at_ i b n h1 h2
  ·rw [yf (by omega)] at h1
   rw [yf (by rw [<-r.len];omega)] at h2
   have e:i - bs.length=0:=by
    have:=(zx.mp h1).1
    simpa using this
   rw [<-r.len,e] at h2
   rw [e] at h1
   simp at h1 h2
   subst h1 h2
   exact aN
theorem t6.more {bs:List Addr} (r:t6 W bs ms) (h:a ∉ bs):t6 (upd W a o) bs ms:=⟨r.len,r.nd,λi b ns h1 h2=>by
 have n:b≠a:=λz=>h (by rw [<-z];exact yH h1)
 rw [aC n];exact r.at_ i b ns h1 h2⟩
theorem GC (rs:RS (C.add W) p σ F H) (ok:cI C W) (ht:Kw k ti g tt te W p R)
  (hq:∀x W1 p1 F1 H1,RS (C.add W1) p1 σ F1 H1->cI C W1->aM F F1->R x W1 p1->Q (.ref x) H1) :
  Dy k (Zz C ti) (R9 C k g) (R8 C k tt) (R7 C k te) σ H Q:=
 ⟨W,ok,p,F,_,rs,ht,λJ H1 zq=>by
  obtain ⟨n,item,p1,F1,Ea,s1,Ny,jq,I,i0,hn,istep,B_⟩:=zq
  have lp:p1.length=σ.length:=Ea.len
  refine ⟨λi m ys σ2 H2=>m=n - i/\i<=n/\∃O p2 F2 bs ms,RS ((C.add O).sh k) p2 σ2 F2 H2/\cI C O/\aM F1 F2/\kE (List.replicate k none++p1) p2/\σ2.drop k=σ/\ys=bs.map V.ref/\t6 O bs ms/\Qf W O/\I i ms p2,⟨n,by simp,yN _,W,_,F1,[],[],Ea.shift,ok,.refl _,.refl _,by simp,rfl,.nil,λ_ _ h=>h,i0⟩,?_⟩
  rintro i m ys σ2 H2 ⟨rfl,hi,O,p2,F2,bs,ms,D,B,s2,Nv,d2,rfl,U,Y,i2⟩
  have hkp:k<=p2.length:=by
   have:=Nv.1
   rw [zt,zF] at this
   omega
  by_cases Z:i<n
  ·obtain ⟨hl,st⟩:=istep i ms p2 Z i2
   refine .inr ⟨jq.go i F2 H2 D.sub s2 Z,?_,λys' σ' H'=>∃W' p' F' bs' ms',RS ((C.add W').sh k) p' σ' F' H'/\cI C W'/\aM F1 F'/\kE (List.replicate k none++p1) p'/\σ'.drop k=σ/\ys'=bs'.map V.ref/\t6 W' bs' ms'/\Qf W W'/\I (i+1) ms' p',λ_ _ _ h=>⟨n - (i+1),by omega,rfl,Z,h⟩,λx H' y=>?_⟩
   ·rw [z9,U.len];exact Nat.lt_of_le_of_lt hl (zK (zK Z hn) (by decide))
   obtain ⟨F3,G_,s3,r3⟩:=JQ.out (C:=(C.add O).sh k) jq D s2 Z y
   refine ⟨O,B,p2,F3,item i,_,G_,r3,st,λσ4 H4 zq=>?_⟩
   obtain ⟨p4,F4,Pn,s4,sh4,d4,q4⟩:=zq
   refine ⟨O,B,pG Pn q4 λb p5 F5 H5 Y_ s5 sh5 q5=>?_⟩
   have s15:aM F1 F5:=s2.trans (s3.trans (s4.trans s5))
   refine dB (λq5=>?_) (λq5=>?_) q5
   ·refine ⟨O,B,O5 Y_ q5 λr6 p6 v6 F6 H6 Za s6 sh6 er6 zq=>?_⟩
    obtain ⟨ns,hz,q6⟩:=zq
    subst hz
    obtain ⟨z,vs,rfl,y1,y2,y3,y4,y5⟩:=er6
    rw [y4.ints] at y3
    obtain ⟨rs7,ok7⟩:=RS.take (C:=C.sh k) (W:=O) Za B.sh y1 y2 y3 y5
    have w0:O z=none:=(iz (C:=C.sh k) y2).1
    refine ⟨_,p6,F6,bs++[z],ms++[ns],rs7,ok7.ac0,s15.trans s6,Nv.trans (sh4.trans (sh5.trans sh6)),d4.trans d2,by rw [yp];rfl,U.snoc w0,λb o e=>?_,q6⟩
    have hb:b≠z:=λe'=>by have:=Y _ _ e;rw [e',w0] at this;cases this
    rw [aC hb];exact Y b o e
   ·exact ⟨O,p5,F5,bs,ms,Y_,B,s15,Nv.trans (sh4.trans sh5),d4.trans d2,rfl,U,Y,q5⟩
  ·have e:i=n:=by omega
   subst e
   refine .inl ⟨jq.stop F2 H2 D.sub s2,λA hA=>?_⟩
   have G_:=(D.laid (o:=.lst (bs.map V.ref)) hA).uQ hkp
   rw [d2] at G_
   obtain ⟨f1,f2,f3⟩:=(D.uQ hkp).free hA
   rw [d2] at f3
   obtain ⟨Pn,ok4⟩:=G_.take B f1 f2 aN f3
   have nA:∀b o,O b=some o->b≠A:=λb o e z=>by
    have:=D.wH (C:=C.sh k) B.sh e
    rw [z,hA] at this;cases this
   have ni:A ∉ bs:=λz=>by
    obtain ⟨ns,e⟩:=U.mem z
    exact nA A _ e rfl
   exact hq A _ _ F2 _ Pn ok4 (s1.trans s2) (B_ ms p2 i2 A _ ⟨bs,aN,ni,U.more ni⟩ λb o e=>by rw [aC (nA b o (Y b o e))];exact Y b o e)⟩
def ac1 (i:Nat) (t:Hp->aG->(Addr->Hp->aG->Prop)->Prop):mD:=λE W p=>t W p λx z n=>pA n i=true/\E.nx z (n.set i (some (.d (.atom (.ref x)))))
theorem ZJ {X:Cx} (h:∀W,cI C W->PG X tg (pH ((C.add W).sh k) k g)):PG X tg (R9 C k g):=λpins s σ H v u Q I r n=>by obtain ⟨W,ok,z⟩:=n;exact h W ok pins s σ H v u Q I r z
theorem ZK {X:Cx} (h:∀W,cI C W->vX X ifs (gj ((C.add W).sh k) t)):vX X ifs (R8 C k t):=λpins s σ H Q I n=>by obtain ⟨W,ok,z⟩:=n;exact h W ok pins s σ H Q I z
theorem ZL {X:Cx} (h:∀W,cI C W->PE X e (lD ((C.add W).sh k) t)):PE X e (R7 C k t):=λpins s σ H Q I n=>by obtain ⟨W,ok,z⟩:=n;exact h W ok pins s σ H Q I z
theorem Ky {n:Pos} (hN:X.N.Nodup) (J:X.N[i]? = some x) (Y:Loc X.env.scope x) (S:aV X scope N k) (hc:X.calm=true) (hi:∀W,cI C W->PI X tg iter (vZ (C.add W) (ti W)))
  (hg:∀W,cI C W->∀Z s H fp,PG (bu X scope N Z s H fp) tg (pH ((C.add W).sh k) k g)) (D:∀W,cI C W->∀Z s H fp,vX (bu X scope N Z s H fp) ifs (gj ((C.add W).sh k) tt)) (he:∀W,cI C W->∀Z s H fp,PE (bu X scope N Z s H fp) elt (lD ((C.add W).sh k) te))
  (I:swapsWith (.ListComp elt [⟨tg,iter,ifs,0⟩] scope pos2) (some (.Name x n)) pos.line X.env=pure true:=by rfl)
  (hs:∀x,foldedSetIterable iter X.env x=pure x:=by intro _;rfl) (hf:X.fn x=true\/X.env.scope.names.lookup x=some .local:=by first|exact .inl rfl|exact .inr rfl|assumption) :
  PS X (.Assign [.Name x n] (.ListComp elt [⟨tg,iter,ifs,0⟩] scope pos2) pos) (mY C (ac1 i (Kw k ti g tt te))):=
 VS.mk (qz hN J Y S hc (ZF hi) (λZ s H fp=>ZJ λW ok=>hg W ok Z s H fp) (λZ s H fp=>ZK λW ok=>D W ok Z s H fp) (λZ s H fp=>ZL λW ok=>he W ok Z s H fp) I hs hf) λW p σ F H E U ok D=>GC U ok D λx W1 p1 F1 H1 z B O ⟨hn,q⟩=>
  ⟨W1,_,F1,z.uO hn (.atom _),B,O,q⟩
end
def oK (i:Int) (n:Nat):List Int:=(List.range n).map λ(k:Nat)=>i+(k:Int)
theorem iR (i:Int) (n:Nat):(oK i n).length=n:=by unfold oK;rw [z9,List.length_range]
theorem z_ (i:Int) (n k:Nat) (h:k<n):(oK i n)[k]? = some (i+(k:Int)):=by unfold oK;rw [zP,List.getElem?_range h];rfl
section
variable {X:Cx} {C:Pc} {a b c e o k:Expr} {cz:TAQ} {pos ps ps2:Pos} {K:PySem.W.Frag} {F:Hp} {es:List Expr}
theorem Qg (ns:List Int):∀(us:List Value),us.length=ns.length->(∀(j:Nat) v (n:Int),us[j]? = some v->ns[j]? = some n->∃t,v=Value.int n t)->Vals (ns.map V.int) us:=by
 induction ns with
 | nil=>intro us h _;cases us with|nil=>exact .nil|cons u r=>cases h
 | cons n ns ih=>
  intro us h z
  cases us with
  | nil=>cases h
  | cons u us=>
   obtain ⟨t,e⟩:=z 0 u n rfl rfl
   exact .cons ⟨t,e⟩ (ih us (by simpa using h) λj v m h1 h2=>z (j+1) v m (by simpa using h1) (by simpa using h2))
def GD (n:TA):TE:=λσ H Q=>n σ H λvs H1=>∃i j:Int,vs=[.int i,.int j]/\-(2 ^ 62)<=i/\i<2 ^ 62/\-(2 ^ 62)<=j/\j<2 ^ 62/\(j - i).toNat<=100000/\∀l,H1 l=none->Q (.ref l) (upd H1 l (.lst ((oK i (j - i).toNat).map V.int)))
theorem Aa (hc:X.calm=true) (hg:Gl X "list") (hm:X.mg "list"=none) (hg2:Gl X "range") (U:X.mg "range"=none) (ha:PA X [a,b] ta) (hs:starEach [a,b] X.env=[(false,eval a X.env),(false,eval b X.env)]:=by rfl) (D:starEach [b] X.env=[(false,eval b X.env)]:=by rfl) :
  PE X (.Call (.Name "list" p1) [.Call (.Name "range" p2) [a,b] [] pos2] [] pos) (GD ta):=by
 intro pins s σ H Q I h
 refine Call_ (gm (u:=.type "list") I hg hm (by kernel_rfl) (yc ?_ rfl rfl))
 refine Calls.spliced_cons ?_
 refine Call_ (gm I hg2 U boot_range (yc (bh (ha pos2 pins s σ H _ I h) λus J zq=>?_) (by rw [hs,D]) (by rw [D];rfl)))
 obtain ⟨vs,H1,I1,r1,q1⟩:=zq
 obtain ⟨i,j,e,i0,i1,j0,j1,hz,q⟩:=q1
 subst e
 cases r1 with
 | cons r rr=>
  cases rr with
  | cons r' rr=>
   cases rr
   obtain ⟨t,rfl⟩:=r
   obtain ⟨t',rfl⟩:=r'
   refine call_range_2 ?_
   refine Calls.spliced_nil ?_
   have I2:Inv X pins σ H1 { J with heap:=J.heap.push { cls:=.type "range",data:=.fields #[.int i t,.int j t',.int 1 J.toks] },toks:=J.toks+1 }:=I1.kept λb o e=>zA _ e
   refine call_list_range (n:=(j - i).toNat) (I2.ok.hd hc) (IsRange.new ..) (small_one i0 i1 j0 j1) (by rw [rangeSize_one];split<;>omega) (by omega) λh' tk z c' kp e B=>?_
   obtain ⟨O,Z⟩:=B
   have hl:z.toList.length=(j - i).toNat:=by rw [xv,O]
   have rv:Vals ((oK i (j - i).toNat).map V.int) z.toList:=by
    refine Qg _ _ (by rw [hl,iR]) λk v n hk hn=>?_
    have Y:k<(j - i).toNat:=by rw [<-hl];exact (zx.mp hk).1
    rw [z_ i _ k Y] at hn
    cases hn
    obtain ⟨t,e⟩:=Z k v (by rw [<-Array.getElem?_toList];exact hk)
    exact ⟨t,by rw [e];congr 1;omega⟩
   exact ⟨.ref _,_,I2.laid (t':=tk) kp (zC _) (show bK X.prog X.w _ h' _ (.lst _) from ⟨by rw [z9,iR,xG];omega,z.toList,c',rv,by rw [Array.toArray_toList];exact e⟩),rfl,q _ (I2.hok.fresh (zC _))⟩
def oM (z:TAQ):TN:=λp Q=>z p λes n=>∃e f i j,es=[e,f]/\lk n e=.int i/\lk n f=.int j/\(-(2 ^ 62)<=i/\i<2 ^ 62/\-(2 ^ 62)<=j/\j<2 ^ 62)/\(j - i).toNat<=100000/\Q (.ro ((oK i (j - i).toNat).map D.int)) n
theorem Cr (hc:X.calm=true) (hg:Gl X "list") (hm:X.mg "list"=none) (D:Gl X "range") (B:X.mg "range"=none) (ha:PA X [a,b] (gA C cz)) (hs:starEach [a,b] X.env=[(false,eval a X.env),(false,eval b X.env)]:=by rfl) (z:starEach [b] X.env=[(false,eval b X.env)]:=by rfl):PE X (.Call (.Name "list" p1) [.Call (.Name "range" p2) [a,b] [] pos2] [] pos) (lD C (oM cz)):=
 QN.mk (Aa hc hg hm D B ha hs z) λp σ F H R Z ht=>dz Z ht λes1 p1 U F1 H1 n Y sh I O=>by
  obtain ⟨e1,e2,i,j,h1,h2,h3,⟨h4,h5,h6,h7⟩,h8,q⟩:=O
  obtain ⟨v,w,rfl,er,J⟩:=BR I h1
  exact ⟨i,j,by rw [aP er h2,aP J h3],h4,h5,h6,h7,h8,λl hl=>fY n Y sh hl (aK.mO _) q⟩
end
theorem Wb (n:Int):vd (.int n)=.int n:=rfl
theorem Wc (x:Addr):vd (.ref x)=.atom (.ref x):=rfl
theorem aD (h:∀k:Hp->aG->Prop,(∀W' p',R E W' p'->k W' p')->t { E with nx:=k } W p):sW t R E W p:=h (R E) (λ_ _ h=>h)
theorem rm (h:t { E with nx:=R E } W p):sW t R E W p:=h
theorem lO {E:jC} {item:Nat->D} (z:∀Q:Nat->(Nat->D)->aG->Prop,Q n item p1->ti W p Q) (I:Nat->Hp->aG->Prop) (h0:I 0 W p1)
  (B:∀i W2 p2,i<n->I i W2 p2->g W2 (item i) p2 λp3=>tb { E with nx:=I (i+1),ct:=I (i+1),bk:=E.nx } W2 p3) (hd:∀W2 p2,I n W2 p2->E.nx W2 p2):Qd ti g tb E W p:=z _ ⟨I,h0,B,hd⟩
theorem Kz (h:ti W p λn item p1=>Qd (λ_ _ Q=>Q n item p1) g tb E W p1):Qd ti g tb E W p:=h
theorem KC {E:jC} (I:Hp->aG->Prop) (n:aG->Nat) (h0:I W p)
  (z:∀W1 p1,I W1 p1->c W1 p1 λb p2=>if b=true then tb { E with nx:=λW q=>I W q/\n q<n p1,ct:=λW q=>I W q/\n q<n p1,bk:=E.nx } W1 p2 else E.nx W1 p2):Kg c tb E W p:=⟨I,n,h0,z⟩
theorem Qh {k:Nat} {item:Nat->D} (z:∀Q:Nat->(Nat->D)->aG->Prop,Q n item p1->ti W p Q) (J:n<=100000) (I:Nat->List (List Int)->aG->Prop) (h0:I 0 [] (List.replicate k none++p1))
  (O:∀i ys p2,I i ys p2->ys.length<=i)
  (B:∀i ys p2,i<n->I i ys p2->g (item i) p2 λp3=>tt p3 λb p4=>if b=true then te p4 λr p5=>∃ns:List Int,r=.ro (ns.map D.int)/\I (i+1) (ys++[ns]) p5 else I (i+1) ys p4)
  (hd:∀ys p2,I n ys p2->∀x W1,Hi W1 x ys->Qf W W1->R x W1 (p2.drop k)):Kw k ti g tt te W p R:=
 z _ ⟨I,h0,J,λi ys p2 hi h=>⟨O i ys p2 h,B i ys p2 hi h⟩,hd⟩
theorem KD {α:Type}:∀{l:List α} {i j:Nat},l.Nodup->(h1:i<l.length)->(h2:j<l.length)->l[i]=l[j]->i=j
 | [],i,j,_,h1,_,_=>absurd h1 (Nat.not_lt_zero _)
 | x::l,0,0,_,_,_,_=>rfl
 | x::l,0,j+1,nd,h1,h2,e=>by
  rw [yr] at nd
  simp at e h2
  exact absurd (e▸yd h2) nd.1
 | x::l,i+1,0,nd,h1,h2,e=>by
  rw [yr] at nd
  simp at e h1
  exact absurd (e▸yd h1) nd.1
 | x::l,i+1,j+1,nd,h1,h2,e=>by
  rw [yr] at nd
  simp at e h1 h2
  rw [KD nd.2 h1 h2 e]
section
variable {W:Hp} {bs:List Addr} {ms:List (List Int)} {a b:Addr}
theorem t6.wr {ns:List Int} (r:t6 W bs ms) (D:bs[i]? = some b):t6 (upd W b (.lst (ns.map V.int))) bs (ms.set i ns):=by
 refine ⟨by rw [ye];exact r.len,r.nd,λj c n h1 h2=>?_⟩
 by_cases B:j=i
 ·subst B
  rw [D] at h1;cases h1
  have O:j<ms.length:=by rw [<-r.len];exact (zx.mp D).1
  rw [zM O] at h2;cases h2
  exact aN
 ·rw [zz (Ne.symm B)] at h2
  have U:c≠b:=λz=>by
   subst z
   obtain ⟨J,e1⟩:=zx.mp h1
   obtain ⟨I,e2⟩:=zx.mp D
   exact B (KD r.nd J I (e1.trans e2.symm))
  rw [aC U];exact r.at_ j c n h1 h2
theorem dM {i:Int} (h0:0<=i) (n:bs[i.toNat]? = some b):h_ (bs.map V.ref) i=some (.ref b):=by
 obtain ⟨l,e⟩:=zx.mp n
 unfold h_
 rw [z9,pX h0 l]
 show (bs.map V.ref)[i.toNat]? = _
 rw [zP,n];rfl
theorem iT {ns:List Int} {i:Int} (h0:0<=i) (h:ns[i.toNat]? = some n):h_ (ns.map V.int) i=some (.int n):=by
 obtain ⟨l,e⟩:=zx.mp h
 unfold h_
 rw [z9,pX h0 l]
 show (ns.map V.int)[i.toNat]? = _
 rw [zP,h];rfl
end
theorem rC (r:Addr) (a b c:Int) (t u v:Tok) (n:¬(!(Builtin.Range.rangeFitsLong a && Builtin.Range.rangeFitsLong b && Builtin.Range.rangeFitsLong c && Builtin.Range.rangeFitsLong (-c) && Builtin.Range.rangeFitsLong (a - c) && Builtin.Range.rangeFitsLong (Builtin.Range.rangeSize a b c)))=true) :
  Meets (Builtin.«range.__reversed__» ⟨[.ref r],[]⟩) (λ_ R s=>s.heap.get? r=some { cls:=.type "range",dict:=none,data:=.fields #[.int a t,.int b u,.int c v],slots:=#[] }/\R (.ok (.ret (Value.ref s.heap.objs.size))) { s with heap:=s.heap.push { cls:=Value.type (if (Builtin.Range.rangeFitsLong a && Builtin.Range.rangeFitsLong b && Builtin.Range.rangeFitsLong c && Builtin.Range.rangeFitsLong (-c) && Builtin.Range.rangeFitsLong (a - c) && Builtin.Range.rangeFitsLong (Builtin.Range.rangeSize a b c))=true then "range_iterator" else "longrange_iterator"),data:=.fields #[rawInt (a+(Builtin.Range.rangeSize a b c - 1) * c),rawInt (Builtin.Range.rangeSize a b c),rawInt (-c)] } }):=
 .of_wp λprog w A R s h=>by obtain ⟨z,g,d,tk,os⟩:=s;obtain ⟨B,h⟩:=h;wp_walk;exact ⟨_,rfl,h⟩
def Ej (lo:Int) (n:Nat):Obj:={ cls:=.type "range_iterator",data:=.fields #[rawInt (lo+(n:Int) - 1),rawInt (n:Int),rawInt (-1)] }
theorem pI:isSubtype (.type "range_iterator") (.type "reversed")=pure false:=by rw [isSubtype_type];kernel_rfl
section
variable {prog:Program} {w:World} {A:Around} {E:Value->Shared->Prop} {s:Shared}
theorem rD {r:Addr} {lo hi:Int} {t u v:Tok} {Q:Value->Shared->Prop} (n:IsRange s.heap r lo hi 1 t u v) (J:-(2 ^ 62)<=lo) (I:lo<2 ^ 62) (D:-(2 ^ 62)<=hi) (B:hi<2 ^ 62)
  (h:Q (.ref s.heap.objs.size) { s with heap:=s.heap.push (Ej lo (hi - lo).toNat) }):wpAny (model prog w) A (call (.builtin "range.__reversed__") [.ref r]) Q E s:=by
 have hT:s.TypeIs (.ref r) "range":=⟨_,n,rfl⟩
 have z:Builtin.Range.rangeSize lo hi 1=((hi - lo).toNat:Int):=by rw [rangeSize_one];split<;>omega
 have sm:(Builtin.Range.rangeFitsLong lo && Builtin.Range.rangeFitsLong hi && Builtin.Range.rangeFitsLong 1 && Builtin.Range.rangeFitsLong (-1) && Builtin.Range.rangeFitsLong (lo - 1) && Builtin.Range.rangeFitsLong (Builtin.Range.rangeSize lo hi 1))=true:=by
  rw [z]
  simp only [Builtin.Range.rangeFitsLong,yx,yw]
  omega
 refine xg F.slot_range_reversed hT F.entry_range_reversed (F.args_range_reversed_1 _) (rC r lo hi 1 t u v (by rw [sm];decide)) ⟨n,?_⟩
 rw [zo sm,z]
 have e:lo+(((hi - lo).toNat:Int) - 1) * 1=lo+((hi - lo).toNat:Int) - 1:=by omega
 rw [e]
 exact h
theorem lQ {r : Addr} {lo hi : Int} {t u v : Tok} {Q₁ : Value → Shared → Prop} (n : IsRange s.heap r lo hi 1 t u v) (I : -(2 ^ 62) ≤ lo) (D : lo < 2 ^ 62) (B : -(2 ^ 62) ≤ hi) (z : hi < 2 ^ 62)
    (h : Q₁ (.ref s.heap.objs.size) { s with heap := s.heap.push (Ej lo (hi - lo).toNat) }) :
    codeAny (model prog w) A (.call (.builtin "reversed.__new__") ⟨[.type "reversed", .ref r], []⟩) (wants Q₁ E) s := by
  have hT : s.TypeIs (.ref r) "range" := ⟨_, n, rfl⟩
  refine codeAny_of_tree ?_
  show wpAny _ A.in1 (do checkBuiltinCall "reversed.__new__" ⟨[.type "reversed", .ref r], []⟩; again (.builtin "reversed.__new__" ⟨[.type "reversed", .ref r], []⟩)) _ _ s
  refine zh (wpAny_of_eq (F.newCall_reversed_1 _) (zG ⟨plainId_quiet F.plain_reversed_new _, codeAny_builtin F.entry_reversed_new ?_⟩))
  rw [Around.under_plainId F.plain_reversed_new _]
  unfold Builtin.«reversed.__new__»
  refine zh (wpAny_of_eq (newClass_reversed _) ?_)
  try dsimp only
  refine zh (wpAny_of_eq (a := ()) (by first | rfl | kernel_rfl) ?_)
  refine zh (wpAny_of_eq (a := ()) (by first | rfl | kernel_rfl) ?_)
  try dsimp only
  refine zh (wpAny_specialOf hT F.slot_range_reversed.lookup ?_)
  try dsimp only
  refine zh (wpAny_of_eq (F.slot_range_reversed.bind _) ?_)
  try dsimp only
  first
  | rw [zi (show ¬ ((Value.builtin "range.__reversed__" == Value.none) = true) from yg)]
  | (show wpAny _ _ (if (Value.builtin "range.__reversed__" == Value.none) = true then _ else _) _ _ _; rw [zi (show ¬ ((Value.builtin "range.__reversed__" == Value.none) = true) from yg)])
  refine zh (wpAny_rule ?_)
  refine zh (m := runValue (.call (.builtin "range.__reversed__") ⟨[.ref r], []⟩)) (show wpAny _ _ (call (.builtin "range.__reversed__") [.ref r]) _ _ _ from rD n I D B z ?_)
  first
  | exact zG h
  | exact zh (zG (zG h))
theorem kJ {r:Addr} {lo hi:Int} {t u v:Tok} {Q:Value->Shared->Prop} (z:IsRange s.heap r lo hi 1 t u v) (J:-(2 ^ 62)<=lo) (I:lo<2 ^ 62) (D:-(2 ^ 62)<=hi) (B:hi<2 ^ 62)
  (h:Q (.ref s.heap.objs.size) { s with heap:=s.heap.push (Ej lo (hi - lo).toNat) }):wpAny (model prog w) A (call (.type "reversed") [.ref r]) Q E s:=by
 refine callType_other (U:="range_iterator") (Q₁:=λobj n=>obj=.ref s.heap.objs.size/\n={ s with heap:=s.heap.push (Ej lo (hi - lo).toNat) }) (by decide) F.create_reversed ⟨_,_,F.mro_reversed⟩ F.made_reversed pI (F.typeCall_reversed_1 _) (lQ z J I D B ⟨rfl,rfl⟩) ?_
 rintro obj n ⟨rfl,rfl⟩
 exact ⟨⟨_,zE _ rfl,rfl⟩,h⟩
end
section
variable {X:Cx} {C:Pc} {cz:TAQ} {K:PySem.W.Frag} {F:Hp}
def ZM (n:TA):TI:=λσ H R=>n σ H λvs H1=>∃i j:Int,vs=[.int i,.int j]/\(-(2 ^ 62)<=i/\i<2 ^ 62/\-(2 ^ 62)<=j/\j<2 ^ 62)/\R (XC (i+((j - i).toNat:Int) - 1) (-1) (j - i).toNat) H1
theorem Qi (hg:Gl X "reversed") (hm:X.mg "reversed"=none) (D:Gl X "range") (B:X.mg "range"=none) (ha:PA X [a,b] ta) (hs:starEach [a,b] X.env=[(false,eval a X.env),(false,eval b X.env)]:=by rfl) (n:starEach [b] X.env=[(false,eval b X.env)]:=by rfl) :
  PI X tg (.Call (.Name "reversed" p1) [.Call (.Name "range" p2) [a,b] [] pos2] [] pos) (ZM ta):=by
 intro pins s σ H R I h
 refine Call_ (gm (u:=.type "reversed") I hg hm (by kernel_rfl) (yc ?_ rfl rfl))
 refine Calls.spliced_cons ?_
 refine Call_ (gm I D B boot_range (yc (bh (ha pos2 pins s σ H _ I h) λus z J=>?_) (by rw [hs,n]) (by rw [n];rfl)))
 obtain ⟨vs,H1,I1,U,q1⟩:=J
 obtain ⟨i,j,e,⟨i0,Z,j0,j1⟩,q⟩:=q1
 subst e
 cases U with
 | cons r rr=>
  cases rr with
  | cons r' rr=>
   cases rr
   obtain ⟨t,rfl⟩:=r
   obtain ⟨O,rfl⟩:=r'
   refine call_range_2 ?_
   refine Calls.spliced_nil ?_
   have I2:Inv X pins σ H1 { z with heap:=z.heap.push { cls:=.type "range",data:=.fields #[.int i t,.int j O,.int 1 z.toks] },toks:=z.toks+1 }:=I1.kept λb o e=>zA _ e
   refine kJ (IsRange.new ..) i0 Z j0 j1 ?_
   exact wpAny_pyIter_rangeiter (zE _ rfl) (Hz I2 (λY=>qp Y _ (-1) _) (wC (zE _ rfl)) q)
def Wd (z:TAQ):sE:=λp Q=>z p λes n=>∃e f i j,es=[e,f]/\lk n e=.int i/\lk n f=.int j/\(-(2 ^ 62)<=i/\i<2 ^ 62/\-(2 ^ 62)<=j/\j<2 ^ 62)/\Q (j - i).toNat (λk=>.int (i+((j - i).toNat:Int) - 1 - k)) n
theorem We (hg:Gl X "reversed") (hm:X.mg "reversed"=none) (D:Gl X "range") (B:X.mg "range"=none) (ha:PA X [a,b] (gA C cz)) (hs:starEach [a,b] X.env=[(false,eval a X.env),(false,eval b X.env)]:=by rfl) (z:starEach [b] X.env=[(false,eval b X.env)]:=by rfl):PI X tg (.Call (.Name "reversed" O) [.Call (.Name "range" p2) [a,b] [] pos2] [] pos) (vZ C (Wd cz)):=
 QI.mk (Qi hg hm D B ha hs z) λp σ F H R rs ht=>dz rs ht λes1 O Y F1 H1 n Z sh I U=>by
  obtain ⟨e1,e2,i,j,h0,h1,h2,h3,q⟩:=U
  obtain ⟨v,w,rfl,er,J⟩:=BR I h0
  exact ⟨i,j,by rw [aP er h1,aP J h2],h3,_,_,O,F1,n,Z,sh,BZ λ_=>by omega,q⟩
end
section
variable {X:Cx} {C:Pc} {st:Stmt} {rest:List Stmt} {t:mD} {XE:Addr->aG->Prop} {W:Hp}
def KH (t:mD):mD:=λE W p=>t { E with nx:=λ_ _=>False } W p
theorem v_cut (O:PS X st (mY C t)):fX X (st::rest) (mY C (KH t)):=λpins s σ H Y I B=>by
 obtain ⟨W,p,F,E,D,ok,J,l⟩:=B
 refine wpAny_execs_cons (bh (O pins s σ H _ I ⟨W,p,F,{ E with nx:=λ_ _=>False },D,ok,J,Ends.Le.refl _⟩) λf U q=>?_)
 cases f with
 | next=>obtain ⟨_,_,_,_,_,_,_,_,_,z⟩:=q;exact z.elim
 | ret u=>obtain ⟨v,σ',H',n,r,q⟩:=q;exact ⟨v,σ',H',n,r,l.rt _ _ q⟩
 | brk=>obtain ⟨σ',H',n,q⟩:=q;exact ⟨σ',H',n,l.bk _ _ q⟩
 | cont=>obtain ⟨σ',H',n,q⟩:=q;exact ⟨σ',H',n,l.ct _ _ q⟩
theorem GX.un (ok:cI C W) {z:Addr} {n:St} {H:Hp} (h:GX (C.add W) XE z n H):GX C XE z n H:=let ⟨p,F,rs,q⟩:=h;⟨p,F,rs.un ok,q⟩
theorem uH.add (n:uH X (GX C XE)) (ok:cI C W):uH X (GX (C.add W) XE):=λpins σ H s s' a z args I m e h=>n pins σ H s s' a z args I m e (GX.un ok h)
end
def kOf:D->Option Key
 | .int i=>some (.inl i)
 | .str x=>some (.inr x)
 | _=>none
def ZP:List D->Option (List Key)
 | []=>some []
 | d::ds=>match kOf d,ZP ds with
  | some k,some ks=>some (k::ks)
  | _,_=>none
def Qj:D->Option V
 | .int n=>some (.int n)
 | .str x=>some (.str x)
 | .non=>some .non
 | .bl b=>some (.bl b)
 | _=>none
section
variable {K:PySem.W.Frag} {F:Hp}
theorem KJ (r:Rep K F d v) (h:Qj d=some u):v=u:=by
 cases d<;>first|(cases h;cases r;rfl)|cases h
end
section
variable {X:Cx} {C:Pc} {a b c e o k:Expr} {es:List Expr} {pos:Pos} {K:PySem.W.Frag} {p:aG} {σ:St} {F H:Hp} {st:Stmt} {t:mD}
theorem Qk (n:kI C.K p σ F e1 v) (h:Qj (lk p e1)=some u):v=u:=by
 cases e1 with
 | fz x=>exact KJ n h
 | ow i=>
  obtain ⟨⟨s,h1,m⟩,h2⟩:=n
  have z:lk p (.ow i)=s.val:=by show (match p[i]? with|some (some s)=>s.val|_=>.non)=_;rw [h1]
  rw [z] at h
  cases s<;>first|(cases m;done)|(cases h;done)
variable {cz:TAQ} {apos ps:Pos}
end
section
variable {X:Cx} {C:Pc} {K:PySem.W.Frag} {pos:Pos}
def ZQ (K:PySem.W.Frag) (n:Nat) (t:N5):TG:=λv σ H Q=>∃a xs,v=.ref a/\iI K H a xs/\xs.length=n/\t xs σ H Q
theorem Ql {k:Nat} (hK:X.K=K) (hc:X.calm=true) (h:ux X es t)
  (hn:(assignEach es X.env).length=n:=by rfl) (J:(assignEach es X.env).findIdx? (·.1)=none:=by rfl):PG X (.Tuple es k pos) (ZQ K n t):=by
 subst hK
 intro pins s σ H v u Q I r B
 obtain ⟨a,xs,e1,Z,hl,B⟩:=B
 subst e1
 cases r
 obtain ⟨z,O,Y,hz⟩:=I.list Z
 have D:(assignEach es X.env).length=z.toArray.size:=by simp [hn,<-hl,O.length]
 rw [assign_Tuple]
 refine zh (xy ?_)
 unfold unpack
 rw [D,J]
 refine zh (yb (PySem.W.kun_itemsOf (I.ok.hd hc) Y.isList λh' U=>?_))
 have I1:Inv X pins σ H { s with heap:=h' }:=I.kept (t':=s.toks) λb o e=>U b o (zN (zI e)) e
 exact h pins _ σ H xs _ Q I1 (by simpa using O) B
def Cu (n:Nat) (z:sV):pQ:=λx p Q=>∃xs,x=.lst xs/\xs.length=n/\z xs p Q
theorem Cv {k:Nat} {D:sV} (hK:X.K=C.K) (Z:X.calm=true) (h:ux X es (Gu C D)) (U:(assignEach es X.env).length=n:=by rfl) (z:(assignEach es X.env).findIdx? (·.1)=none:=by rfl):PG X (.Tuple es k pos) (Gs C (Cu n D)):=
 QG.mk (Ql hK Z h U z) λp σ F H x v R B J I=>by
  obtain ⟨xs,O,Y,q⟩:=I
  subst O
  cases J with
  | lst q1 r1=>exact ⟨_,_,rfl,.of (B.sub _ _ q1),by rw [<-r1.length];exact Y,p,F,xs,R,B,r1,q,λ_ _ h=>h⟩
end
section
variable {X:Cx} {C:Pc} {c e e1 e2:Expr} {pos ps apos:Pos} {W:Hp} {p:aG} {σ:St} {F H:Hp} {st:Stmt} {t u:mD}
def vIf (z:Hp->mQ) (t u:mD):mD:=λE W p=>z W p λb n=>if b=true then t E W n else u E W n
theorem ac3 (J:∀W,cI C W->PT X c (gj (C.add W) (tc W))) (U:fX X a (mY C t)) (O:fX X b (mY C u)):PS X (.If c a b pos) (mY C (vIf tc t u)):=
 VS.mk (Hv (ZC J) U O) λW p σ F H E D ok I=>⟨W,ok,pG D I λk B F1 H1 n z sh q=>dB (λq=>⟨W,B,F1,E,n,ok,q,uX z⟩) (λq=>⟨W,B,F1,E,n,ok,q,uX z⟩) q⟩
end
section
variable {X:Cx} {C:Pc} {e o value:Expr} {es:List Expr} {pos pos' apos:Pos} {W:Hp} {f:Str} {K:PySem.W.Frag}
def Wf (K:PySem.W.Frag) (f:Str) (B z:Hp->TQ):mD:=λE W p=>z W p λev D=>B W D λI p2=>∃x n dx fs v,Qj (lk p2 ev)=some v/\lk p2 I=.atom (.ref x)/\W x=some (.ins n dx fs)/\tD K n/\g_ K n f/\fs.length<1000/\E.nx (upd W x (.ins n dx (iJ f v fs))) p2
theorem R_ (hK:X.K=K) (ho:∀W,cI C W->PE X o (Up (C.add W) (to W))) (hv:∀W,cI C W->PE X value (Up (C.add W) (tv W))) (hs:swapsWith value (some (.Attribute o f pos')) pos.line X.env=pure false:=by rfl) :
  PS X (.Assign [.Attribute o f pos'] value pos) (mY C (Wf K f to tv)):=by
 subst hK
 exact VS.mk (Uk (sX ho) (sX hv) hs) λW p σ F H E rs ok J=>⟨W,ok,up1 rs J λe1 p1 v1 F1 H1 D s1 Ny U J=>⟨W,ok,up1 D J λe2 p2 v2 F2 H2 n Y z O hq=>by
  obtain ⟨x,Kl,dx,fs,v,g1,g2,Z,g4,g5,g6,q⟩:=hq
  rw [cZ O g2,Qk (U.mono Y z) g1]
  obtain ⟨B,I⟩:=n.R4 (us:=.ins Kl dx (iJ f v fs)) ok Z (.inr (.inr (.inl ⟨_,_,_,rfl⟩)))
  exact ⟨x,Kl,dx,fs,rfl,n.wH ok Z,g4,g5,g6,_,p2,F2,B,I,s1.trans Y,q⟩⟩⟩
def KN (S:Ei) (J:Addr) (m:Str) (z:Hp->TQ) (B:Hp->TAQ):Km:=λW p Q=>z W p λD n=>∃x dx fs,lk n D=.atom (.ref x)/\W x=some (.ins J dx fs)/\fs.lookup m=none/\B W n λes p2=>∃ds,Nu es=some ds/\S W (.atom (.ref x)::ds) λr I=>Q r I p2
theorem Wg {m : Str} {k : Nat} {ds0 : List (Str × Value)} (hK : X.K = C.K) (ho : ∀ W, cI C W → PE X o (Up (C.add W) (to W))) (c : tD X.K Kl) (hm : Meth X.K Kl m fa)
    (G : bO X.prog X.w X.K X.mg X.base lB k fa fd ps (Hf X.K S)) (hr : bI k X.A) (hb : Binds X.K fd ps []) (ha : ∀ W, cI C W → PA X (e :: es) (gA (C.add W) (cz W)))
    (Z : starEach (e :: es) X.env = (false, eval e X.env) :: starEach es X.env := by rfl) (hpl : (backTo pos (starEach es X.env)).any (·.1) = false := by rfl)
    (ht : eval (.Call (.Attribute o m apos) (e :: es) [] pos) X.env = (do
      let ov ← eval o X.env
      standAt apos.atName
      let (f, first) ← holding [ov] (getMethod ov m pl)
      callWith pos f first (backTo pos (starEach (e :: es) X.env)) (backToKw pos (keywordEach [] X.env))) := by rfl) :
    PE X (.Call (.Attribute o m apos) (e :: es) [] pos) (y_ C (KN S Kl m to cz)) := λpins s σ H Q I hq => by
  obtain ⟨W, p, F, R, rs, ok, Y, hq⟩ := hq
  refine uA (sX ho) c hm G hr hb .nil tL (ZD ha) Z hpl ht pins s σ H Q I ?_
  refine ⟨W, ok, up1 rs Y λe1 p1 v1 F1 H1 B s1 Ny Gz O => ?_⟩
  obtain ⟨x, dx, fs, h1, h2, h3, U⟩ := O
  have ev := cZ Gz h1
  subst ev
  refine ⟨x, dx, fs, rfl, B.wH ok h2, h3, W, ok, dz B U λes2 p2 vs2 F2 H2 n s2 Nv xN O => ?_⟩
  obtain ⟨ds, g1, q⟩ := O
  rw [ya, hK]
  refine ⟨W, .atom (.ref x) :: ds, F2, _, n.sub, λb u z => ⟨n.wH ok z, n.wF ok z, ok.lst b u z⟩, .cons (.atom _) (qN (C := C.add W) xN g1), q, λr v W' F' H' po hR => ?_⟩
  obtain ⟨D, J⟩ := RS.Kh n ok po
  exact hq r v W' p2 F' H' D J (s1.trans (s2.trans po.ext)) po.res hR
def KQ (S:Ei) (z:Addr):Km:=λW p Q=>∀x dx,W x=none->W dx=none->dx≠x->S (upd (upd W dx (.own x)) x (.ins z dx [])) [.atom (.ref x)] λd n=>d=.non/\Q (.atom (.ref x)) n p
theorem Wh {k:Nat} (hK:X.K=C.K) (M:Mk X.K Kl fa) (G:bO X.prog X.w X.K X.mg X.base lB k fa fd ps (Hf X.K S)) (hr:bI (k+1) X.A) (hg:Gl X x) (hm:X.mg x=some (.ref Kl)) (hb:Binds X.K fd ps [])
  (hdb:(x == ("__debug__":Str))=false:=by decide):PE X (.Call (.Name x p0) [] [] pos) (y_ C (KQ S Kl)):=λpins s σ H Q I hq=>by
 obtain ⟨W,p,F,R,rs,ok,ht',hq⟩:=hq
 refine HS M G hr hg hm hb .nil tL hdb pins s σ H Q I ?_
 show ∀x dx,_
 intro a da na J ne
 obtain ⟨f1,f2,f3⟩:=rs.free J
 obtain ⟨D,Z⟩:=(rs.laid (o:=.own a) J).Kd ok f1 f2 aN (.inr (.inr (.inr ⟨_,rfl⟩))) f3
 have O:upd H da (.own a) a=none:=by rw [aC (Ne.symm ne)];exact na
 obtain ⟨g1,g2,g3⟩:=D.free O
 obtain ⟨n,B⟩:=(D.laid (o:=.ins Kl da []) O).Kd Z g1 g2 aN (.inr (.inr (.inl ⟨_,_,_,rfl⟩))) g3
 have wa:W a=none:=by
  have:=(iz g2).1
  rw [aC (Ne.symm ne)] at this;exact this
 rw [hK]
 refine ⟨_,[.atom (.ref a)],F,_,n.sub,λb u z=>⟨n.wH B z,n.wF B z,B.lst b u z⟩,.cons (.atom _) .nil,ht' a da wa (iz f2).1 ne,λr v W' F' H' po hR=>?_⟩
 obtain ⟨U,Y⟩:=RS.Kh n B po
 obtain ⟨hr',hR⟩:=hR
 subst hr'
 have hv:v=.non:=by have:=po.res;cases this;rfl
 exact ⟨hv,hq (.atom (.ref a)) (.ref a) W' p F' H' U Y po.ext (.atom _) hR⟩
end
section
variable {X:Cx} {C:Pc} {e o:Expr} {es:List Expr} {pos apos:Pos} {f:Str} {K:PySem.W.Frag}
def KR (K:PySem.W.Frag) (H0:Hp) (f:Str) (B:TQ):TQ:=λp Q=>B p λe1 z=>∃x n dx fs v,lk z e1=.atom (.ref x)/\H0 x=some (.ins n dx fs)/\tD K n/\g_ K n f/\fs.lookup f=some v/\Q (.fz (vd v)) z
theorem KY {D:TQ} (h0:C.bs=[]) (Y:X.K=K) (he:PE X e (Up C D)) (U:attributeBase e f X.env (eval e X.env)=eval e X.env:=by rfl):PE X (.Attribute e f pos) (Up C (KR K C.H0 f D)):=by
 subst Y
 exact QE.mk (Uj he U) λp σ F H R J O=>up1 J O λe1 p1 v1 F1 H1 n I sh B z=>by
  obtain ⟨x,Kl,dx,fs,v,h1,h2,h3,h4,Z,q⟩:=z
  exact ⟨x,Kl,dx,fs,v,cZ B h1,n.keep _ _ h2 (λq z=>by rw [h0] at z;cases z),h3,h4,Z,aY n I sh (R6 v F1) q⟩
theorem KZ {m : Str} {k : Nat} (he : PE X o ta) (c : tD X.K Kl) (O : Meth X.K Kl m fa) (F : bO X.prog X.w X.K X.mg X.base (nP X.prog X.w) k fa fd ps sp) (hr : bI k X.A) (hb : Binds X.K fd ps []) (lk : qH X G) (ha : PA X (e :: es) t)
    (J : starEach (e :: es) X.env = (false, eval e X.env) :: starEach es X.env := by rfl) (hpl : (backTo pos (starEach es X.env)).any (·.1) = false := by rfl)
    (ht : eval (.Call (.Attribute o m apos) (e :: es) [] pos) X.env = (do
      let ov ← eval o X.env
      standAt apos.atName
      let (f, first) ← holding [ov] (getMethod ov m pl)
      callWith pos f first (backTo pos (starEach (e :: es) X.env)) (backToKw pos (keywordEach [] X.env))) := by rfl) :
    PE X (.Call (.Attribute o m apos) (e :: es) [] pos) (λσ H Q => ta σ H λx H1 => ∃ a dx fs, x = .ref a ∧ H1 a = some (.ins Kl dx fs) ∧ fs.lookup m = none ∧ t σ H1 λvs H2 => sp (x :: vs) H2 Q λcl _ H' => ∃ D, cl = .ref D ∧ G D σ H') := by
  intro pins s σ H Q I h
  refine PySem.W.methodCall_KW (pl := pl) (bh (he pins s σ H _ I h) λu s1 n => ?_) ht
  obtain ⟨x, H1, U, rx, a, dx, fs, ex, ea, l, q⟩ := n
  subst ex
  obtain rfl : u = Value.ref a := rx
  refine lA U ea c O l ?_
  refine xj (first := [.ref a]) (h₀ := X.base) I.ok.mod.NQ O.kp (bh (ha pos pins s1 σ H1 _ U q) λus Z n => ?_) J hpl
  obtain ⟨vs, H2, B, r, q2⟩ := n
  refine ⟨B.qj, ?_⟩
  refine uG (us := .ref a :: us) (vs := .ref a :: vs) F hr hb B (.cons rfl r) q2 λe s' n => ?_
  obtain ⟨a', D, H', e1, e2, e3, un, hok, Y, C'', e4, g⟩ := n
  subst e1
  cases e4
  exact lk pins σ H2 Z H' s' a' D B (B.call' e2 un hok e3 (λb z => absurd z (by simp))) Y g
end
section
variable {prog:Program} {w:World} {A:Around} {E:Value->Shared->Prop} {s:Shared}
theorem K1 (B:s.heap.IsTupleIter j t i) (J:s.heap.IsTuple t vs) (I:vs[i]? = some x)
  (q:∀h',h'.IsTupleIter j t (i+1)->Heap.SameBut j s.heap h'->Q x { s with heap:=h' }):wpAny (model prog w) A (Builtin.SmallTypes.nextOf (.ref j)) Q E s:=by
 obtain ⟨o,n,O,hd⟩:=id B
 obtain ⟨U,z,_,Y,D⟩:=J
 unfold Builtin.SmallTypes.nextOf
 refine zh (wpAny_callSpecial?_slot (name:=Str.ofString "__next__") B.typeIs F.slot_tuple_iterator_next (wpAny_call_entry F.slot_tuple_iterator_next B.typeIs F.entry_tuple_iterator_next ?_ (F.args_tuple_iterator_next_1 _)))
 show wpAny _ _ (field (.ref j) 0 >>= _) _ _ s
 refine zh (wpAny_field n hd (x:=.ref t) rfl ?_)
 show wpAny _ _ (if (Value.ref t == Value.none)=true then _ else _) _ _ s
 rw [zi (show ¬((Value.ref t == Value.none)=true) by simp)]
 show wpAny _ _ (field (.ref j) 1 >>= _) _ _ s
 refine zh (wpAny_field n hd (x:=.int i 0) rfl ?_)
 show wpAny _ _ (seqItems? (.ref t) >>= _) _ _ s
 refine zh (wpAny_seqItems z D ?_)
 simp only [xA,I]
 exact zh (wpAny_setField n hd (by simp) (zG ⟨x,rfl,zG (q _ ⟨_,Heap.get?_update_self _ n (Obj.isFreed_of_fields (xi hd _)),(Obj.cls_mapFields ..).trans O,by rw [xi hd];simp [rawInt]⟩ (Heap.SameBut.update ..))⟩))
theorem Ek (n:Nat) {i j:Nat} (h:(i == j)=false):n+i≠n+j:=λz=>by rw [Nat.add_left_cancel z] at h;simp at h
structure ZT (n l1 l2:Addr) (i:Nat) (h:Heap):Prop where
 z:IsZip h (n+4) (n+2) (n+3) .none
 ti:IsPair h (n+2) (.ref n) (.ref (n+1))
 tO:∃a b,IsPair h (n+3) a b
 l:h.IsListIter n l1 i
 t:h.IsTupleIter (n+1) l2 i
abbrev Wi (n:Addr):List Addr:=[n+4,n+2,n+3,n,n+1]
theorem Cw {n b:Nat} (h:b∈Wi n):n<=b/\b<=n+4:=by
 simp only [zu,xt,or_false] at h
 omega
theorem t_ {n Y l2:Addr} {k:Nat} {xs:Array Value} {Q:Option Value->Shared->Prop} (hh:A.handled=none) (h1:Y<n) (h2:l2<n) (st:ZT n Y l2 k s.heap) (hl1:s.heap.IsList Y xs)
  (hi:∀x,xs[k]? = some x->∃ys y,s.heap.IsTuple l2 ys/\ys[k]? = some y/\∀h',IsZip h' (n+4) (n+2) (n+3) (rawInt s.heap.objs.size)->IsPair h' (n+2) (.ref n) (.ref (n+1))->IsPair h' (n+3) x y->h'.IsListIter n Y (k+1)->h'.IsTupleIter (n+1) l2 (k+1)->IsPair h' s.heap.objs.size x y->
   (∀c o,c ∉ Wi n->s.heap.get? c=some o->h'.get? c=some o)->Q (some (.ref s.heap.objs.size)) { s with heap:=h' })
  (he:xs[k]? = none->∀h',(∀c o,c ∉ Wi n->s.heap.get? c=some o->h'.get? c=some o)->Q none { s with heap:=h' }):wpAny (model prog w) A (pyNext (.ref (n+4))) Q E s:=by
 obtain ⟨Z,hTI,⟨a,b,hTO⟩,hI,hJ⟩:=st
 have n1:n≠n+4:=Ek n (i:=0) rfl
 have n2:n≠n+3:=Ek n (i:=0) rfl
 have n3:n+1≠n+4:=Ek n rfl
 have n4:n+1≠n+3:=Ek n rfl
 have n5:n+3≠n+4:=Ek n rfl
 have n6:n≠n+1:=Ek n (i:=0) rfl
 have n7:n+2≠n+4:=Ek n rfl
 have n8:∀{l j:Nat},l<n->l≠n+j:=λh=>zN (zK h (Nat.le_add_right _ _))
 have hT:s.TypeIs (.ref (n+4)) "zip":=⟨_,Z,rfl⟩
 have out:∀c,c ∉ Wi n->c≠n+4/\c≠n+3/\c≠n/\c≠n+1:=λc D=>⟨λz=>D (z▸.head _),λz=>D (z▸.tail _ (.tail _ (.head _))),λz=>D (z▸.tail _ (.tail _ (.tail _ (.head _)))),λz=>D (z▸.tail _ (.tail _ (.tail _ (.tail _ (.head _)))))⟩
 unfold pyNext
 refine zh (wpAny_attempt (wpAny_callSpecial?_slot (name:=Str.ofString "__next__") hT F.slot_zip_next (wpAny_call_entry F.slot_zip_next hT F.entry_zip_next ?_ (F.args_zip_next_1 _))))
 show wpAny _ _ (field (.ref (n+4)) 2 >>= _) _ _ _
 refine zh (wpAny_field Z rfl (x:=.bool false) rfl ?_)
 show wpAny _ _ (field (.ref (n+4)) 3 >>= _) _ _ _
 refine zh (wpAny_field Z rfl (x:=.ref (n+2)) rfl (zh (wpAny_seqItems hTI rfl ?_)))
 show wpAny _ _ (Builtin.SmallTypes.ownedTupleIsFree (.ref (n+4)) >>= _) _ _ _
 refine zh ?_
 unfold Builtin.SmallTypes.ownedTupleIsFree
 refine zh (wpAny_field Z rfl (x:=.none) rfl (zG ?_))
 simp only [if_true]
 refine zh (wpAny_rule (zh (wpAny_field Z rfl (x:=.ref (n+3)) rfl (zh (wpAny_setField_rec Z (by simp) λha za sa=>?_)))))
 replace za:IsZip ha (n+4) (n+2) (n+3) .ellipsis:=za
 refine zh ?_
 simp only [List.zipIdx_cons,List.zipIdx_nil,List.forIn_cons,List.forIn_nil]
 refine zh (zh (wpAny_onRaise ?_))
 show wpAny _ _ (Builtin.SmallTypes.nextOf (.ref n) >>= _) _ _ _
 have l1z:Y≠n+4:=n8 h1
 cases hx:xs[k]? with
 | none=>
  refine zh (wpAny_nextOf_list_end hh (hI.extBut sa.extBut n1) (hl1.extBut sa.extBut l1z) hx λhb e J zq=>?_)
  obtain ⟨oe,O,hce⟩:=zq
  have zb:IsZip hb (n+4) (n+2) (n+3) .ellipsis:=J _ _ (Ne.symm n1) za
  have ez:e≠n+4:=λy=>by subst y;rw [zb] at O;cases O;simp at hce
  refine wpAny_setField_rec zb (by simp) λD _ I=>?_
  refine zh (wpAny_isInstance (T:="StopIteration") (b:=true) ⟨oe,I.extBut _ _ ez O,hce⟩ isSubtype_stop ?_)
  exact zG (he hx _ λc o D x=>I.extBut _ _ (out c D).1 (J _ _ (out c D).2.2.1 (sa.extBut _ _ (out c D).1 x)))
 | some x=>
  obtain ⟨ys,y,hl2,hy,hQ⟩:=hi x hx
  refine zh (wpAny_nextOf_list_item (hI.extBut sa.extBut n1) (hl1.extBut sa.extBut l1z) hx λhb ib J=>zG ?_)
  have tb:IsPair hb (n+3) a b:=J.extBut _ _ (Ne.symm n2) (sa.extBut _ _ n5 hTO)
  refine zh (wpAny_seqItems tb rfl (zh (wpAny_updateSeq_pair tb λD tc I=>?_)))
  replace tc:IsPair D (n+3) x b:=tc
  refine zh (wpAny_letGo (zG (zh (zh (wpAny_onRaise ?_)))))
  show wpAny _ _ (Builtin.SmallTypes.nextOf (.ref (n+1)) >>= _) _ _ _
  refine zh (K1 (((hJ.extBut sa.extBut n3).extBut J.extBut (Ne.symm n6)).extBut I.extBut n4) (((hl2.extBut sa.extBut (n8 h2)).extBut J.extBut (zN h2)).extBut I.extBut (n8 h2)) hy λhd jd sd=>zG ?_)
  have td:IsPair hd (n+3) x b:=sd.extBut _ _ (Ne.symm n4) tc
  refine zh (wpAny_seqItems td rfl (zh (wpAny_updateSeq_pair td λB te se=>?_)))
  replace te:IsPair B (n+3) x y:=te
  refine zh (wpAny_letGo (zG (zG (zh (wpAny_seqItems te rfl (zh (wpAny_newTuple ?_)))))))
  have hsz:B.objs.size=s.heap.objs.size:=by rw [se.1,sd.1,I.1,J.1,sa.1]
  have ze:IsZip B (n+4) (n+2) (n+3) .ellipsis:=se.extBut _ _ (Ne.symm n5) (sd.extBut _ _ (Ne.symm n3) (I.extBut _ _ (Ne.symm n5) (J.extBut _ _ (Ne.symm n1) za)))
  have kp:∀c o,c≠n+4->c≠n+3->c≠n->c≠n+1->s.heap.get? c=some o->B.get? c=some o:=λc o U c2 c3 c4 e=>se.extBut _ _ c2 (sd.extBut _ _ c4 (I.extBut _ _ c2 (J.extBut _ _ c3 (sa.extBut _ _ U e))))
  have ie:B.IsListIter n Y (k+1):=((ib.extBut I.extBut n2).extBut sd.extBut n6).extBut se.extBut n2
  have je:B.IsTupleIter (n+1) l2 (k+1):=jd.extBut se.extBut n4
  have zlt:n+4<B.objs.size:=zI ze
  show wpAny _ _ (Builtin.SmallTypes.ownedTupleHandOut (.ref (n+4)) (.ref B.objs.size) >>= _) _ _ _
  refine zh ?_
  unfold Builtin.SmallTypes.ownedTupleHandOut
  have zf:IsZip (B.push { cls:=.type "tuple",data:=.seq #[x,y] }) (n+4) (n+2) (n+3) .ellipsis:=zA _ ze
  refine zh (wpAny_setField_rec zf (by simp) λh6 z6 s6=>?_)
  replace z6:IsZip h6 (n+4) (n+2) (n+3) (rawInt B.objs.size):=z6
  refine wpAny_setField_rec z6 (by simp) λh7 z7 s7=>?_
  replace z7:IsZip h7 (n+4) (n+2) (n+3) (rawInt B.objs.size):=z7
  have up:∀c o,c≠n+4->B.get? c=some o->h7.get? c=some o:=λc o U e=>s7.extBut _ _ U (s6.extBut _ _ U (zA _ e))
  have t7:IsPair h7 B.objs.size x y:=s7.extBut _ _ (Nat.ne_of_gt zlt) (s6.extBut _ _ (Nat.ne_of_gt zlt) (zE _ rfl))
  refine zG ⟨_,rfl,zG ?_⟩
  show Q (some (.ref B.objs.size)) _
  rw [hsz] at z7 t7 ⊢
  obtain ⟨oi,ei,ri⟩:=ie
  obtain ⟨oj,ej,rj⟩:=je
  exact hQ h7 z7 (up _ _ n7 (kp _ _ n7 (Ek n rfl) (Ne.symm (Ek n (i:=0) rfl)) (Ek n rfl) hTI)) (up _ _ n5 te) ⟨oi,up _ _ n1 ei,ri⟩ ⟨oj,up _ _ n3 ej,rj⟩ t7 λc o D e=>by
   obtain ⟨U,c2,c3,c4⟩:=out c D
   exact up c o U (kp c o U c2 c3 c4 e)
end
def Wj (K:PySem.W.Frag) (n z:Addr):It:=
 ⟨λi H=>∃xs ys x y,iI K H n xs/\Dq K H z ys/\xs[i]? = some x/\ys[i]? = some y,
  λi H x H'=>∃t u v,x=.ref t/\H t=none/\(∀xs,iI K H n xs->xs[i]? = some u)/\(∀ys,Dq K H z ys->ys[i]? = some v)/\H'=upd H t (.tup [u,v]),
  λi H=>∃xs,iI K H n xs/\xs.length<=i⟩
theorem GF {P:Program} {w:World} {K:PySem.W.Frag} {es:List Expr} {k:Nat} {pos:Pos} {n l1 l2:Addr} (h1:l1<n) (Z:l2<n):Turn P w K (.Tuple es k pos) (Wj K l1 l2) (Wi n) (n+4) (ZT n l1 l2) where
 mem:=.head _
 obj:=λi h st b J=>by
  obtain ⟨h1,Z,⟨a,b',h3⟩,⟨o4,h4,c4,d4⟩,⟨o5,h5,c5,d5⟩⟩:=st
  simp only [zu,xt,or_false] at J
  rcases J with rfl|rfl|rfl|rfl|rfl
  ·exact ⟨_,h1,λv z=>by cases z⟩
  ·exact ⟨_,Z,λv z=>by cases z⟩
  ·exact ⟨_,h3,λv z=>by cases z⟩
  ·exact ⟨o4,h4,λv z=>by rw [d4] at z;cases z⟩
  ·exact ⟨o5,h5,λv z=>by rw [d5] at z;cases z⟩
 keep:=λi h h' st kp=>by
  obtain ⟨h1,Z,⟨a,b',h3⟩,h4,⟨o,q,r⟩⟩:=st
  exact ⟨kp _ (.head _) _ h1,kp _ (.tail _ (.head _)) _ Z,⟨a,b',kp _ (.tail _ (.tail _ (.head _))) _ h3⟩,h4.at λo q=>kp _ (.tail _ (.tail _ (.tail _ (.head _)))) o q,⟨o,kp _ (.tail _ (.tail _ (.tail _ (.tail _ (.head _))))) o q,r⟩⟩
 item:=by
  intro X hP hw hK hc i pins s σ H E I hf st hg
  subst hP hw hK
  obtain ⟨xs,ys,x,y,D,hq2,hx,hy⟩:=hg
  obtain ⟨O,U,p1,_⟩:=I.list D
  obtain ⟨its2,rv2,p2,_⟩:=I.tuple hq2
  obtain ⟨u,hu,ru⟩:=U.get hx
  obtain ⟨v,hv,rvv⟩:=rv2.get hy
  have hu':O.toArray[i]? = some u:=by simpa using hu
  have zl:n+4<s.heap.objs.size:=zI st.z
  refine t_ (I.ok.hd hc) h1 Z st p1.isList (λu' hu2=>⟨_,v,p2,by simpa using hv,λh' w1 w2 w3 w4 w5 w6 w7=>?_⟩) λhn=>by rw [hu'] at hn;cases hn
  obtain rfl:=yl (hu'.symm.trans hu2)
  refine ⟨_,rfl,wpAny_letOwnedTupleGo_zip w1 λh'' v1 v2=>?_⟩
  have B:Heap.SameBut (n+4) h' h'':=v2
  have fresh:H s.heap.objs.size=none:=I.hok.fresh (zC _)
  have up:∀b o,b ∉ Wi n->s.heap.get? b=some o->h''.get? b=some o:=λb o q1 q=>B.extBut b o (λz=>q1 (z▸.head _)) (w7 b o q1 q)
  have I1:Inv X pins σ (upd H s.heap.objs.size (.tup [x,y])) { s with heap:=h'',toks:=s.toks }:=I.moved hf up (λb _ q=>aC (zN q)) ((I.hok.moved (λb J=>(hf b J).1) up).track fresh
   ⟨by show 2<=sizeLine;decide,[u,v],.cons ru (.cons rvv .nil),⟨_,B.extBut _ _ (Nat.ne_of_gt zl) w6,rfl,_,rfl⟩⟩)
  refine ⟨.ref s.heap.objs.size,_,I1,rfl,⟨_,x,y,rfl,fresh,λzs Y=>by rw [I.qm Y D];exact hx,λzs Y=>by rw [I.Fx Y hq2];exact hy,rfl⟩,⟨v1,B.extBut _ _ (Ek n rfl) w2,⟨u,v,B.extBut _ _ (Ek n rfl) w3⟩,w4.at λo q=>B.extBut _ o (Ek n (i:=0) rfl) q,?_⟩,λb J=>?_⟩
  ·obtain ⟨o,q,r⟩:=w5
   exact ⟨o,B.extBut _ o (Ek n rfl) q,r⟩
  ·rw [aC (zN (Nat.lt_of_le_of_lt (Cw J).2 zl))];exact (hf b J).1
 done:=by
  intro X hP hw hK hc i pins s σ H E I hf st hg
  subst hP hw hK
  obtain ⟨xs,D,hend⟩:=hg
  obtain ⟨O,U,p1,_⟩:=I.list D
  have l1':=U.length
  exact t_ (I.ok.hd hc) h1 Z st p1.isList (λx hx=>by have:=(yW.mp hx).1;simp at this;omega) λ_ h' eb=>⟨rfl,I.moved (t':=s.toks) hf eb (λ_ _ _=>rfl) (I.hok.moved (λb J=>(hf b J).1) eb)⟩
 self:=λ_ _ _ _ _ st h=>wpAny_pyIter_zip st.z h
theorem GJ {s:Shared} (J:s.heap.IsList l1 xs) (I:s.heap.IsTuple l2 ys)
  (h:∀h',IsZip h' (s.heap.objs.size+4) (s.heap.objs.size+2) (s.heap.objs.size+3) .none->IsPair h' (s.heap.objs.size+2) (.ref s.heap.objs.size) (.ref (s.heap.objs.size+1))->IsPair h' (s.heap.objs.size+3) .none .none->
   h'.IsListIter s.heap.objs.size l1 0->h'.IsTupleIter (s.heap.objs.size+1) l2 0->(∀c o,s.heap.get? c=some o->h'.get? c=some o)->Q (.ref (s.heap.objs.size+4)) { s with heap:=h' }):wpAny (model prog w) A (call (.type "zip") [.ref l1,.ref l2]) Q E s:=by
 let g1:Heap:=s.heap.push { cls:=.type "list_iterator",data:=.fields #[.ref l1,.int 0 0] }
 let g2:Heap:=g1.push { cls:=.type "tuple_iterator",data:=.fields #[.ref l2,.int 0 0] }
 let g3:Heap:=g2.push { cls:=.type "tuple",data:=.seq #[.ref s.heap.objs.size,.ref g1.objs.size] }
 let g4:Heap:=g3.push { cls:=.type "tuple",data:=.seq #[.none,.none] }
 let g5:Heap:=g4.push { cls:=.type "zip",data:=.fields #[.none,.bool false,.bool false,.ref g2.objs.size,.ref g3.objs.size] }
 have B:g1.objs.size=s.heap.objs.size+1:=xp ..
 have z:g2.objs.size=s.heap.objs.size+2:=by rw [xp,B]
 have n:g3.objs.size=s.heap.objs.size+3:=by rw [xp,z]
 have Y:g4.objs.size=s.heap.objs.size+4:=by rw [xp,n]
 have M:Meets (Builtin.«zip.__new__» ⟨[.type "zip",.ref l1,.ref l2],[]⟩) (λ_ R s'=>s'=s/\R (.ok (.ret (.ref g4.objs.size))) { s with heap:=g5 }):=.of_wp λprog w A R s' h=>by
  obtain ⟨e,h⟩:=h
  subst e
  obtain ⟨hp,g,d,tk,os⟩:=s'
  have hsub:=sub_zip
  have U:Heap.IsList (Shared.heap ⟨hp,g,d,tk,os⟩) l1 xs:=J
  have O:Heap.IsTuple (Shared.heap ⟨hp.push { cls:=.type "list_iterator",data:=.fields #[.ref l1,.int 0 0] },g,d,tk,os⟩) l2 ys:=Heap.IsTuple.push I _
  wp_walk using wpAny_pyIter_list U,wpAny_pyIter_tuple O
  exact ⟨_,rfl,h⟩
 refine callType_new F.called_zip (by decide) (F.typeCall_zip_2 _ _) (F.newCall_zip_2 _ _) (λobj=>F.args_object_init_3 obj _ _) F.entry_zip_new M ⟨rfl,?_⟩
 have k5:∀{c o},g4.get? c=some o->g5.get? c=some o:=zA _
 have k4:∀{c o},g3.get? c=some o->g5.get? c=some o:=λq=>k5 (zA _ q)
 have k3:∀{c o},g2.get? c=some o->g5.get? c=some o:=λq=>k4 (zA _ q)
 have k2:∀{c o},g1.get? c=some o->g5.get? c=some o:=λq=>k3 (zA _ q)
 have D:g5.get? g4.objs.size=some _:=zE _ rfl
 have Z:g5.get? g3.objs.size=some _:=k5 (zE _ rfl)
 have q3:g5.get? g2.objs.size=some _:=k4 (zE _ rfl)
 have q2:g5.get? g1.objs.size=some _:=k3 (zE _ rfl)
 have q1:g5.get? s.heap.objs.size=some _:=k2 (zE _ rfl)
 show _/\_
 rw [z,n,Y] at D
 rw [B,z] at q3
 rw [n] at Z
 rw [B] at q2
 rw [Y]
 exact ⟨⟨_,D,rfl⟩,h _ D q3 Z ⟨_,q1,rfl,rfl⟩ ⟨_,q2,rfl,rfl⟩ λc o x=>k2 (zA _ x)⟩
section
variable {X:Cx} {C:Pc} {a b c e:Expr} {cz:TAQ} {pos ps ps2:Pos} {K:PySem.W.Frag} {F:Hp}
def ZR (K:PySem.W.Frag) (n:TA):TI:=λσ H R=>n σ H λvs H1=>∃a b xs ys,vs=[.ref a,.ref b]/\iI K H1 a xs/\Dq K H1 b ys/\R (Wj K a b) H1
theorem Qm {ta:TA} {es:List Expr} {k:Nat} {pos J n:Pos} (hg:Gl X "zip") (hm:X.mg "zip"=none) (ha:PA X [a,b] ta) (hs:starEach [a,b] X.env=[(false,eval a X.env),(false,eval b X.env)]:=by rfl) (B:starEach [b] X.env=[(false,eval b X.env)]:=by rfl) :
  PI X (.Tuple es k pos) (.Call (.Name "zip" J) [a,b] [] n) (ZR X.K ta):=by
 intro pins s σ H R I h
 refine Call_ (gm (u:=.type "zip") I hg hm (by kernel_rfl) (yc (bh (ha n pins s σ H _ I h) λus z ⟨vs,H1,D,r1,q1⟩=>?_) (by rw [hs,B]) (by rw [B];rfl)))
 obtain ⟨l1,l2,xs,ys,e,Z,Y,q⟩:=q1
 subst e
 cases r1 with
 | cons r rr=>
  cases rr with
  | cons r' rr=>
   cases rr
   cases r
   cases r'
   obtain ⟨agG,rv1,p1,hz1⟩:=D.list Z
   obtain ⟨its2,rv2,J,hz2⟩:=D.tuple Y
   have U:l1<z.heap.objs.size:=by obtain ⟨o,q,_⟩:=p1.isList;exact zI q
   have O:l2<z.heap.objs.size:=by obtain ⟨o,q,_⟩:=J;exact zI q
   refine GJ p1.isList J λh1 hz hTI hTO hi1 hi2 up1=>?_
   refine wpAny_pyIter_zip (s:={ z with heap:=h1 }) hz ⟨_,Wi z.heap.objs.size,_,_,H1,rfl,D.kept (t':=z.toks) up1,GF U O,⟨hz,hTI,⟨_,_,hTO⟩,hi1,hi2⟩,λb hb=>?_,q⟩
   exact D.T8 (Cw hb).1 (D.hok.fresh (Cw hb).1)
def NB (K:PySem.W.Frag) (a:Addr) (ns:List Int):Prop:=∃(o:Obj) (z:Array Value) (n:Nat),K.lookup a=some o/\o.cls=.type "tuple"/\o.data=.seq z n/\z.size<=sizeLine/\Vals (ns.map V.int) z.toList
theorem NB.sq {ns:List Int} (h:NB K x ns):Dq K H x (ns.map V.int):=.inr h
theorem Qn {ds:List D} {ns:List Int} (h:F x=some (.lst vs)) (r:aK K F ds vs) (h':NB K y ns) (hl:ds.length=ns.length):JQ K (Wj K x y) ds.length (λi=>.tup [ds.getD i .non,.int (ns.getD i 0)]) F:=by
 have sq:∀{F1 H:Hp},aM F1 H->aM F F1->iI K H x vs:=λn s=>.of (n _ _ (s _ _ h))
 have B:∀i,i<ds.length->(ns.map V.int)[i]? = some (.int (ns.getD i 0)):=λi hi=>by
  rw [zP,zj,zd (by omega)];rfl
 refine ⟨λi F1 H n s hi=>?_,λi F1 H v H' n s hi z=>?_,λF1 H n s=>⟨vs,sq n s,by rw [r.length];exact zC _⟩⟩
 ·obtain ⟨v,e1,_⟩:=r.get (getD_some hi)
  exact ⟨vs,_,v,_,sq n s,h'.sq,e1,B i hi⟩
 ·obtain ⟨t,u,w,e1,e2,Y,U,O⟩:=z
  subst e1 O
  obtain ⟨Z,J,I⟩:=r.get (getD_some hi)
  have q1:=Y vs (sq n s)
  have q2:=U _ h'.sq
  rw [J] at q1;cases q1
  rw [B i hi] at q2;cases q2
  exact .inr ⟨t,_,_,e2,rfl,rfl,rfl,.cons (I.mono s) (.cons (.int _) .nil)⟩
def Wk (K:PySem.W.Frag) (n:TAQ):sE:=λp Q=>n p λes z=>∃e f xs y ns,es=[e,f]/\e=.fz (.lst xs)/\f=.fz (.atom (.ref y))/\NB K y ns/\xs.length=ns.length/\Q xs.length (λi=>.tup [xs.getD i .non,.int (ns.getD i 0)]) z
theorem Wl {k:Nat} (hK:X.K=C.K) (hg:Gl X "zip") (hm:X.mg "zip"=none) (ha:PA X [a,b] (gA C cz)) (hs:starEach [a,b] X.env=[(false,eval a X.env),(false,eval b X.env)]:=by rfl) (z:starEach [b] X.env=[(false,eval b X.env)]:=by rfl):PI X (.Tuple ts k pos) (.Call (.Name "zip" ps) [a,b] [] ps2) (vZ C (Wk X.K cz)):=
 QI.mk (Qm hg hm ha hs z) λp σ F H R Y ht=>dz Y ht λes1 Z O F1 H1 n U sh D J=>by
  obtain ⟨e1,e2,xs,y,ns,h0,h1,h2,B,h4,q⟩:=J
  obtain ⟨v,w,rfl,er,I⟩:=BR D h0
  subst h1 h2
  cases er with
  | lst q1 r1=>
   cases I with
   | atom _=>exact ⟨_,_,_,_,rfl,.of (n.sub _ _ q1),B.sq,_,_,Z,F1,n,U,sh,by rw [hK] at B ⊢;exact Qn q1 r1 B h4,q⟩
def K3 (K:PySem.W.Frag) (z:TAQ):TQ:=λp Q=>z p λes n=>∃(e:Ev) (x:Addr) (ns:List Int),es=[e]/\lk n e=.atom (.ref x)/\NB K x ns/\Q (.fz (.int ns.length)) n
theorem Qo (Y:Gl X "len") (U:X.mg "len"=none) (Z:PA X [e] (gA C cz)) (he:starEach [e] X.env=(false,eval e X.env)::starEach [] X.env:=by rfl):PE X (.Call (.Name "len" ps) [e] [] pos) (Up C (K3 X.K cz)):=
 QE.mk (fj (tQ rfl) Y U PySem.boot_len Z (he:=he)) λp σ F H R J O=>dz J O λes1 p1 D F1 H1 n I sh z B=>by
  obtain ⟨e1,x,ns,h1,h2,h3,q⟩:=B
  obtain ⟨v,rfl,er⟩:=oA z h1
  rw [cZ er h2]
  exact ⟨x,_,rfl,.inr h3.sq,aY n I sh (by rw [z9];exact .int _) q⟩
end
open PyProof.Rows.KTD (Rows datumAt inKeys isSome_datumAt kt_dictFind_strs)
structure KTb (K:PySem.W.Frag) (a:Addr) (T:List (Str × Addr)):Prop where
 lo:(a == sysModules)=false
 ex:∃(o:Obj) (es:Array DictEntry) (ep:Nat),K.lookup a=some o/\o.ExactDict/\o.data=.dict es ep/\Rows (λd v=>v=Value.ref d) es.toList T
section
variable {prog:Program} {w:World} {A:Around} {E:Value->Shared->Prop} {s:Shared} {K:PySem.W.Frag} {a:Addr} {T:List (Str × Addr)} {k:Str} {tk:Tok}
theorem KTb.ty (t:KTb K a T) (I:K.In s.heap):s.TypeIs (.ref a) "dict":=by
 obtain ⟨o,_,_,h,x,_⟩:=t.ex
 exact ⟨o,I _ _ h,x.1⟩
theorem KTb.get (t:KTb K a T) (I:K.In s.heap) (q:Q ((datumAt k T).map Value.ref) { s with toks:=s.toks+1 }):wpAny (model prog w) A (dictGet a (.str k tk)) Q E s:=by
 obtain ⟨o,es,J,h,x,hd,n⟩:=t.ex
 have B:=I _ _ h
 obtain ⟨l⟩:=es
 have hf:((l.find? λe=>e.key.isStr k).map (·.val))=(datumAt k T).map Value.ref:=by
  cases z:datumAt k T with
  | none=>exact n.find_none z
  | some d=>obtain ⟨v,e1,e2⟩:=n.find_some z;rw [e1,e2];rfl
 rw [<-hf] at q
 have D:findBy (λk v=>v.isStr k) ⟨l⟩ k=(l.find? λe=>e.key.isStr k).map (·.val):=by simp [findBy]
 rw [<-D,findBy_of_findIdx?] at q
 unfold dictGet
 try with_reducible refine yb ?_
 refine zh (wpAny_pyHash_str (zh (kt_dictFind_strs (s:={ s with toks:=s.toks+1 }) B hd (by simpa using n.exact) ?_)))
 cases z:(⟨l⟩:Array DictEntry).findIdx? λe=>e.key.isStr k with
 | none=>rw [z] at q;exact zG q
 | some i=>rw [z] at q;exact zh (wpAny_dictEntries (s:={ s with toks:=s.toks+1 }) B hd (zG q))
theorem KTb.ZS (t : KTb K a T) (I : K.In s.heap) (q : Q (.bool (!inKeys k T)) { s with toks := s.toks + 1 }) : wpAny (model prog w) A (compareOp .NotIn (.str k tk) (.ref a)) Q E s := by
  have ty := t.ty I
  rw [← isSome_datumAt] at q
  show wpAny _ _ (do return .bool (!(← contains (.ref a) (.str k tk)))) Q E s
  refine zh ?_
  unfold contains
  try with_reducible refine yb ?_
  refine zh (wpAny_specialOf ty slot_dict_contains.lookup ?_)
  show wpAny _ _ (if (some (Value.builtin "dict.__contains__") == some Value.none) = true then _ else _) _ E s
  rw [zi (by rw [beq_builtin_none]; exact yg)]
  refine zh (wpAny_callSpecialUnlessNone?_slot (name := Str.ofString "__contains__") ty slot_dict_contains (wpAny_call_entry slot_dict_contains ty entry_dict_contains ?_ (args_dict_contains _ _)))
  show wpAny _ _ (dictGet a (.str k tk) >>= _) _ _ s
  refine zh (t.get I ?_)
  cases z : datumAt k T with
  | some d =>
    rw [z] at q
    show wpAny _ _ (ret (.bool true)) _ _ _
    exact zG ⟨_, rfl, yy (zG q)⟩
  | none =>
    rw [z] at q
    show wpAny _ _ (Builtin.Dict.pendingKey? a (.str k tk) >>= _) _ _ _
    exact zh (wpAny_pendingKey_other t.lo (zG ⟨_, rfl, yy (zG q)⟩))
theorem KTb.item {n z:Expr} {Q:Value->Shared->Prop} {d:Addr} (t:KTb K a T) (I:K.In s.heap) (hd:datumAt k T=some d) (q:Q (.ref d) { s with toks:=s.toks+1 })
  (B:subscripted z false (.ref a) (.str k tk)=operate [.ref a,.str k tk] (getItem (.ref a) (.str k tk))) (D:∀r,letTemporaryGo n (.ref a) r=pure ()):wpAny (model prog w) A (subscriptTail n z (.ref a) (.str k tk)) Q E s:=by
 have ty:=t.ty I
 refine subscriptTail_builtin ty slot_dict_getitem.lookup ?_ B D
 unfold getItem
 try with_reducible refine yb ?_
 refine zh (wpAny_sequenceKey ty (by decide) ?_)
 refine zh (wpAny_callSpecial?_slot (name:=Str.ofString "__getitem__") ty slot_dict_getitem (wpAny_call_entry slot_dict_getitem ty entry_dict_getitem ?_ (args_dict_getitem _ _)))
 show wpAny _ _ (dictGet a (.str k tk) >>= _) _ _ s
 refine zh (t.get I ?_)
 rw [hd]
 exact zG ⟨_,rfl,zG q⟩
end
section
variable {X:Cx} {C:Pc} {e:Expr} {x:Str} {a:Addr} {T:List (Str × Addr)} {ta:TQ} {pos pos':Pos}
def K4 (T:List (Str × Addr)) (z:TQ):mQ:=λp Q=>z p λe n=>∃w,lk n e=.str w/\Q (!inKeys w T) n
theorem Wm (t:KTb X.K a T) (hg:Gl X x) (hm:X.mg x=some (.ref a)) (he:PE X e (Up C ta)) (hd:(x == ("__debug__":Str))=false:=by decide) (hb:behindInMarks .NotIn (.Name x pos')=false:=by rfl):PT X (.Compare e [.NotIn] [.Name x pos'] pos) (gj C (K4 T ta)):=by
 have ho:g8 X (compareOp .NotIn) (λu v H Q=>∃w,u=.str w/\v=.ref a/\Q (.bl (!inKeys w T)) H):=λpins s σ H u v J v2 Q I Z Y n=>by
  obtain ⟨w,e1,e2,q⟩:=n
  subst e1 e2
  obtain ⟨t1,rfl⟩:=Z
  obtain rfl:=Y
  exact t.ZS I.qj ⟨.bl _,H,I.kept (t':=s.toks+1) λ_ _ z=>z,rfl,q⟩
 exact QT.mk (jg ho he (gV (v:=.ref a) hg hm rfl hd) hb) λp σ F H R U ht=>up1 U ht λe1 p1 J F1 H1 B O sh D n=>by obtain ⟨w,h1,q⟩:=n;exact ⟨w,cu D h1,rfl,_,rfl,p1,F1,B,O,sh,q⟩
def Wn (T:List (Str × Addr)) (z:TQ):TQ:=λp Q=>z p λe n=>∃w d,lk n e=.str w/\datumAt w T=some d/\Q (.fz (.atom (.ref d))) n
theorem K6 (t:KTb X.K a T) (hg:Gl X x) (hm:X.mg x=some (.ref a)) (he:PE X e (Up C ta)) (hs:mK e) (hd:(x == ("__debug__":Str))=false:=by decide):PE X (.Subscript (.Name x pos') e pos) (Up C (Wn T ta)):=by
 have hr:PE X (.Subscript (.Name x pos') e pos) (Yn (λu v H Q=>∃w d,u=.ref a/\v=.str w/\datumAt w T=some d/\Q (.ref d) H) (tC (.ref a)) (Up C ta)):=λpins s σ H Q I h=>
  Subscript_ (N_ (gV (v:=.ref a) hg hm rfl hd) he I h λO v2 U u v H2 J r1 r2 n=>by
   obtain ⟨w,d,e1,e2,e3,q⟩:=n
   subst e1 e2
   obtain rfl:=r1
   obtain ⟨t2,rfl⟩:=r2
   exact t.item J.qj e3 ⟨.ref d,H2,J.kept (t':=U.toks+1) λ_ _ z=>z,rfl,q⟩ (hs _ _) λr=>rfl)
 exact QE.mk hr λp σ F H R Z ht=>up1 Z ht λe1 p1 O F1 H1 B Y sh D n=>by obtain ⟨w,d,h1,h2,q⟩:=n;exact ⟨w,d,rfl,cu D h1,h2,aY B Y sh (.atom _) q⟩
end
theorem Inv.laidN {X:Cx} {s:Shared} {h':Heap} (I:Inv X pins σ H s) (k:∀b u,s.heap.get? b=some u->h'.get? b=some u) (D:s.heap.get? a=none) (new:bK X.prog X.w (upd H a o) h' a o) :
  H a=none/\Inv X pins σ (upd H a o) { s with heap:=h',toks:=t' }:=by
 have B:H a=none:=by
  cases q:H a with
  | none=>rfl
  | some u=>obtain ⟨_,e⟩:=(I.hok _ _ q).ex;rw [D] at e;cases e
 refine ⟨B,I.un ⟨λb u q _ _ _=>k b u q,λb u q _ _ _=>⟨u.slots,k b u q⟩,λb u q n _=>?_,λb u q _=>⟨u,k b u q⟩,λb u xs q=>?_⟩ ((I.hok.kept k).track B new)⟩
 ·rw [aC (λz=>by rw [z,D] at q;cases q)];exact n
 ·rw [aC (gk q B)];exact q
theorem Ab {A:Around} {s:Shared} {vs:List Value} (n:s.heap.IsList l (x::vs).toArray) (Z:A.handled=none) (hz:vs.length<sizeLine)
  (q:∀D h' tk,s.heap.get? D=none->(∀b o,s.heap.get? b=some o->h'.get? b=some o)->h'.get? D=some { cls:=.type "list",data:=.seq vs.toArray }->Q [x,.ref D] { s with heap:=h',toks:=tk }):wpAny (model prog w) A (unpackItems (.ref l) 2 (some 1)) Q E s:=by
 have lt:l<s.heap.objs.size:=by obtain ⟨o,U,_⟩:=n;exact zI U
 have ne:l≠s.heap.objs.size:=zN lt
 unfold unpackItems
 refine zh ?_
 unfold notIterableAtAll
 refine zh (wpAny_specialOf n.typeIs slot_list_iter.lookup (zG ?_))
 simp only [Bool.false_eq_true,if_false]
 refine zh (yb (wpAny_pyIter_list n (zh (yb (PySem.W.kun_draw ne 1 0 _ _ ⟨_,zE _ rfl,rfl,rfl⟩ (n.push _) (by simp) λh1 O I=>?_)))))
 have J:h1.IsList l (x::vs).toArray:=(n.push _).extBut I.extBut ne
 obtain ⟨oi,B,_⟩:=id O
 obtain ⟨ol,z,_⟩:=id J
 refine zh (yb (PySem.W.kun_collect (s:={ s with heap:=h1 }) (T:="list_iterator") (.inr (.inr (.inl rfl))) (Walks.list (A:=A.in1) Z s.heap.objs.size l ne (x::vs).toArray) (λj u st=>st.1.typeIs) (k:=1) (by simp) ⟨O,J⟩ (zI B) (zI z) (λh2 tk Y=>?_) (by show _<=_;simp;omega)))
 have kp:∀b o,s.heap.get? b=some o->h2.get? b=some o:=λb o e=>Y b o (zN (zI e)) (I.extBut b o (zN (zI e)) (zA _ e))
 show wpAny _ _ (newList _ >>= λd=>pure _) _ _ _
 refine zh (wpAny_newList (s:={ s with heap:=h2,toks:=tk }) (zG ?_) ?_)
 ·have fr:s.heap.get? h2.objs.size=none:=by
   cases y:s.heap.get? h2.objs.size with
   | none=>rfl
   | some o=>exact absurd (zI (kp _ _ y)) (xx _)
  have e1:(List.take ((List.drop 1 (x::vs).toArray.toList).length - (2 - 1 - 1)) (List.drop 1 (x::vs).toArray.toList))=vs:=by simp
  have:=q h2.objs.size (h2.push { cls:=.type "list",data:=.seq vs.toArray }) tk fr (λb o e=>zA _ (kp b o e)) (zE _ rfl)
  rw [e1]
  simpa using this
 ·simp;omega
section
variable {X:Cx} {C:Pc} {a b:Expr} {pos pos':Pos} {K:PySem.W.Frag}
theorem Qp {k:Nat} (hc:X.calm=true) (ha:PG X a ta) (hb:PG X b tb) (J:(assignEach [a,.Starred b pos'] X.env)=[(false,assign a X.env),(true,assign b X.env)]:=by rfl) :
  PG X (.Tuple [a,.Starred b pos'] k pos) (λv σ H Q=>∃l x xs,v=.ref l/\iI X.K H l (x::xs)/\∀D,H D=none->ta x σ (upd H D (.lst xs)) λn H1=>tb (.ref D) n H1 Q):=by
 intro pins s σ H v u Q I r ⟨l,x,xs,e,hq,h⟩
 subst e
 obtain rfl:=r
 obtain ⟨its,Z,ht,O⟩:=I.list hq
 cases Z with
 | @cons _ y _ ys rx rs=>
 rw [assign_Tuple]
 refine zh (xy ?_)
 unfold unpack
 rw [J]
 refine zh (yb (Ab ht.isList (I.ok.hd hc) (by rw [<-rs.length];simp at O;omega) λD h' tk d0 kp hD=>?_))
 obtain ⟨J,I1⟩:=I.laidN (o:=.lst xs) (t':=tk) kp d0 ⟨by simp at O;omega,ys,0,rs,hD⟩
 refine assignInOrder_cons (bh (ha pins _ σ _ x y _ I1 rx (h D J)) λ_ Y B=>?_)
 obtain ⟨n,H1,J1,q1⟩:=B
 refine assignInOrder_cons (bh (hb pins Y n H1 (.ref D) (.ref D) _ J1 rfl q1) λ_ U B=>?_)
 obtain ⟨z,H2,J2,q2⟩:=B
 exact uy pins U z H2 [] [] Q J2 .nil ⟨rfl,q2⟩
def Cy (g g':pQ):pQ:=λx p Q=>∃y ys,x=.lst (y::ys)/\g y p λn=>g' (.lst ys) n Q
theorem Wo {k:Nat} (hK:X.K=C.K) (hc:X.calm=true) (ha:PG X a (Gs C g)) (hb:PG X b (Gs C g')) (hn:(assignEach [a,.Starred b pos'] X.env)=[(false,assign a X.env),(true,assign b X.env)]:=by rfl):PG X (.Tuple [a,.Starred b pos'] k pos) (Gs C (Cy g g')):=
 QG.mk (Qp hc ha hb hn) λp σ F H x v R J Z n=>by
  obtain ⟨y,ys,hx,q⟩:=n
  subst hx
  cases Z with
  | lst q1 r1=>
   cases r1 with
   | @cons _ _ _ vr ry ryr=>
    refine ⟨_,_,_,rfl,.of (J.sub _ _ q1),λD hD=>?_⟩
    have sm:=cP (J.free hD).1 (HO.lst vr)
    refine ⟨p,_,y,_,J.put hD,ry.mono sm,q,λU H1 n=>?_⟩
    obtain ⟨p1,F1,I,z,q1⟩:=n
    exact ⟨p1,F1,.lst ys,R,I,.lst (z _ _ aN) (ryr.mono (sm.trans z)),q1,λO H2 n=>by obtain ⟨p2,F2,B,Y,q2⟩:=n;exact ⟨p2,F2,B,sm.trans (z.trans Y),q2⟩⟩
end
def Kp (C:Pc) (H:Hp):Prop:=∀a o,C.H0 a=some o->(∀q∈C.bs,q.2≠a)->H a=some o
theorem lR {C:Pc} {ds:List D} {H:Hp} (h:∀q∈C.bs,(∃xs,(ds.map Sl.d)[q.1]? = some (.bor xs))/\∃us,H q.2=some (.lst us)):C.bs=[]:=by
 cases e:C.bs with
 | nil=>rfl
 | cons q r=>
  obtain ⟨⟨xs,z⟩,_⟩:=h q (by rw [e];exact zn)
  rw [zP] at z
  cases y:ds[q.1]? with
  | none=>rw [y] at z;cases z
  | some d=>rw [y] at z;cases z
section
variable {X:Cx} {C:Pc} {a b c e o:Expr} {ta tb tc:TQ} {pos apos:Pos} {K:PySem.W.Frag} {p:aG} {σ:St} {F H:Hp} {st:Stmt} {es:List Expr} {cz:TAQ} {x:Str} {XE:Addr->aG->Prop} {t u:mD}
theorem RS.kp (rs:RS C p σ F H):Kp C H:=λa o h n=>rs.keep a o h n
def Cz (C:Pc) (S:Bc) (t:TAQ):TN:=λp Q=>t p λes z=>∃as,dj z es=some as/\(dY es).Nodup/\∀H,Kp C H->S H as λr n=>Q r (back z es n)
theorem c7 {ps:List Str} {k:Nat} {S:Bc} {p0:Pos} (hK:X.K=C.K) (D:aF X.K X.mg x st ps) (G:bO X.prog X.w X.K X.mg X.base lB k D.f D.fd ps (VB X.K S)) (hr:bI k X.A) (ha:PA X (e::es) (gA C cz))
  (hg:Gl X x:=by rfl) (J:(x == ("__debug__":Str))=false:=by decide) (he:starEach (e::es) X.env=(false,eval e X.env)::starEach es X.env:=by rfl) (hpl:(backTo pos (starEach es X.env)).any (·.1)=false:=by rfl) :
  PE X (.Call (.Name x p0) (e::es) [] pos) (lD C (Cz C S cz)):=
 QN.mk (qy D G hr ha hg J he hpl) λp σ F H R Y ht=>dz Y ht λes1 p1 O F1 H1 n U sh z h=>by
  obtain ⟨as,h1,nd,q⟩:=h
  rw [ya,hK]
  refine ⟨as,F1,_,n.sub,(fZ n z h1 nd).1,q H1 n.kp,λr as' v F' H' po hq=>?_⟩
  obtain ⟨I,B,Z⟩:=n.call z h1 nd po
  exact ⟨r,_,F',I,U.trans po.ext,sh.trans B,Z,hq⟩
def uY (C:Pc) (S:Bc) (J:Addr) (m:Str) (B:TQ) (D:TAQ):TN:=λp Q=>B p λI z=>∃x dx fs,lk z I=.atom (.ref x)/\C.H0 x=some (.ins J dx fs)/\C.bs=[]/\fs.lookup m=none/\D z λes p2=>∃as,dj p2 (.fz (.atom (.ref x))::es)=some as/\(dY es).Nodup/\∀H,Kp C H->S H as λr n=>Q r (back p2 (.fz (.atom (.ref x))::es) n)
theorem bZ {m : Str} {k : Nat} (hK : X.K = C.K) (ho : PE X o (Up C to)) (c : tD X.K Kl) (hm : Meth X.K Kl m fa) (G : bO X.prog X.w X.K X.mg X.base lB k fa fd ps (VB X.K S)) (hr : bI k X.A) (hb : Binds X.K fd ps []) (ha : PA X (e :: es) (gA C cz))
    (hst : starEach (e :: es) X.env = (false, eval e X.env) :: starEach es X.env := by rfl) (hpl : (backTo pos (starEach es X.env)).any (·.1) = false := by rfl)
    (ht : eval (.Call (.Attribute o m apos) (e :: es) [] pos) X.env = (do
      let ov ← eval o X.env
      standAt apos.atName
      let (f, first) ← holding [ov] (getMethod ov m pl)
      callWith pos f first (backTo pos (starEach (e :: es) X.env)) (backToKw pos (keywordEach [] X.env))) := by rfl) :
    PE X (.Call (.Attribute o m apos) (e :: es) [] pos) (lD C (uY C S Kl m to cz)) :=
  QN.mk (uA ho c hm G hr hb .nil tL ha hst hpl ht) λp σ F H R rs ht => up1 rs ht λe1 p1 v1 F1 H1 z s1 U Gz Z => by
    obtain ⟨x, dx, fs, h1, h2, h2', h3, ht2⟩ := Z
    have ev := cZ Gz h1
    subst ev
    refine ⟨x, dx, fs, rfl, z.keep _ _ h2 (λq D => by rw [h2'] at D; cases D), h3, dz z ht2 λes2 p2 I F2 H2 n s2 O xN Z => ?_⟩
    obtain ⟨as, g1, nd, q⟩ := Z
    have B : mR C.K p2 σ F2 (.fz (.atom (.ref x)) :: es2) (.ref x :: I) := .cons (show Rep _ _ (.atom (.ref x)) _ from .atom _) xN
    rw [ya, hK]
    refine ⟨as, F2, _, n.sub, (fZ n B g1 nd).1, q H2 n.kp, λr as' v F' H' po D => ?_⟩
    obtain ⟨Y, J, rr⟩ := n.call B g1 nd po
    exact ⟨r, _, F', Y, s1.trans (s2.trans po.ext), U.trans (O.trans J), rr, D⟩
def uZ (C:Pc) (S:XHp) (O:Addr) (m:Str) (J:Addr->aG->Prop) (B:TQ) (D:TAQ):TN:=λp _=>B p λI n=>∃x dx fs,lk n I=.atom (.ref x)/\C.H0 x=some (.ins O dx fs)/\C.bs=[]/\fs.lookup m=none/\D n λes p2=>∃as z,dj p2 (.fz (.atom (.ref x))::es)=some as/\(dY es).Nodup/\(∀H,Kp C H->S H as z)/\J z (back p2 (.fz (.atom (.ref x))::es) as)
theorem Qq {m : Str} {k : Nat} (hK : X.K = C.K) (ho : PE X o (Up C to)) (c : tD X.K Kl) (hm : Meth X.K Kl m fa) (G : bO X.prog X.w X.K X.mg X.base (nP X.prog X.w) k fa fd ps (P0 X.K S)) (hr : bI k X.A) (hb : Binds X.K fd ps [])
    (lk : qH X (GX C XE)) (ha : PA X (e :: es) (gA C cz))
    (U : starEach (e :: es) X.env = (false, eval e X.env) :: starEach es X.env := by rfl) (hpl : (backTo pos (starEach es X.env)).any (·.1) = false := by rfl)
    (O : eval (.Call (.Attribute o m apos) (e :: es) [] pos) X.env = (do
      let ov ← eval o X.env
      standAt apos.atName
      let (f, first) ← holding [ov] (getMethod ov m pl)
      callWith pos f first (backTo pos (starEach (e :: es) X.env)) (backToKw pos (keywordEach [] X.env))) := by rfl) :
    PE X (.Call (.Attribute o m apos) (e :: es) [] pos) (lD C (uZ C S Kl m XE to cz)) :=
  QN.mk (KZ ho c hm G hr hb lk ha U hpl O) λp σ F H R rs O => up1 rs O λe1 p1 v1 F1 H1 z s1 Ny Gz I => by
    obtain ⟨x, dx, fs, h1, h2, Y, h3, J⟩ := I
    have ev := cZ Gz h1
    subst ev
    refine ⟨x, dx, fs, rfl, z.keep _ _ h2 (λq hq => by rw [Y] at hq; cases hq), h3, dz z J λZ p2 D F2 H2 n s2 Nv xN I => ?_⟩
    obtain ⟨as, Cl, g1, nd, hS, q⟩ := I
    have B : mR C.K p2 σ F2 (.fz (.atom (.ref x)) :: Z) (.ref x :: D) := .cons (show Rep _ _ (.atom (.ref x)) _ from .atom _) xN
    rw [hK]
    exact ⟨as, F2, Cl, n.sub, (fZ n B g1 nd).1, hS H2 n.kp, λF' H' po => ⟨Cl, rfl, _, F', (n.call B g1 nd po).1, q⟩⟩
def CG (G:Addr->eE->Prop) (B:TQ) (D:TAQ):TN:=λp Q=>B p λI z=>∃f S,lk z I=.atom (.ref f)/\G f S/\D z λes p2=>∃as,dj p2 es=some as/\(dY es).Nodup/\S as λr n=>Q r (back p2 es n)
theorem Qs (hK:X.K=C.K) (hn:PE X (.Name x p0) (Up C tf)) (hG:∀f S,G f S->∃k fd ps,bO X.prog X.w X.K X.mg X.base lB k f fd ps (Gv X.K S)/\bI k X.A/\Binds X.K fd ps []/\PySem.W.keepIn X.K (.ref f)=true) (ha:PA X (e::es) (gA C cz))
  (he:starEach (e::es) X.env=(false,eval e X.env)::starEach es X.env:=by rfl) (hpl:(backTo pos (starEach es X.env)).any (·.1)=false:=by rfl):PE X (.Call (.Name x p0) (e::es) [] pos) (lD C (CG G tf cz)):=by
 intro pins s σ H Q I ⟨p,F,R,rs,ht,hq⟩
 refine yZ (bh (hn pins s σ H _ I ⟨p,F,_,rs,ht,λv H1 z=>z⟩) λfv s1 zq=>?_)
 obtain ⟨v,H1,I1,r1,e1,p1,F1,Ea,Y,O,Gz,f,S,h1,h2,ht2⟩:=zq
 have ev:=cZ Gz h1
 subst ev
 obtain rfl:=r1
 obtain ⟨k,fd,ps,fn,hr,hb,kp⟩:=hG f S h2
 refine xj (h₀:=X.base) I.ok.mod.NQ kp (bh (ha pos pins s1 σ H1 _ I1 ⟨p1,F1,_,Ea,ht2,λvs H2 z=>z⟩) λus s2 ⟨vs,H2,I2,r2,es2,p2,F2,n,U,J,B,as,g1,nd,q⟩=>⟨I2.qj,?_⟩) he hpl
 refine Br fn hr hb .nil tL I2 r2 ?_
 rw [ya,hK]
 refine ⟨as,F2,_,n.sub,(fZ n B g1 nd).1,q,λr as' v F' H' po hR=>hq v H' ?_⟩
 obtain ⟨Z,D,rr⟩:=n.call B g1 nd po
 exact ⟨r,_,F',Z,Y.trans (U.trans po.ext),O.trans (J.trans D),rr,hR⟩
def u5 (G:Addr->V5->Prop) (J:Addr->aG->Prop) (B:TQ) (D:TAQ):TN:=λp _=>B p λI n=>∃f S,lk n I=.atom (.ref f)/\G f S/\D n λes p2=>∃as z,dj p2 es=some as/\(dY es).Nodup/\S as z/\J z (back p2 es as)
theorem K7 (hK:X.K=C.K) (hn:PE X (.Name x p0) (Up C tf)) (hG:∀f S,G f S->∃k fd ps,bO X.prog X.w X.K X.mg X.base (nP X.prog X.w) k f fd ps (Zo X.K S)/\bI k X.A/\Binds X.K fd ps []/\PySem.W.keepIn X.K (.ref f)=true) (lk:qH X (GX C XE)) (ha:PA X (e::es) (gA C cz))
  (he:starEach (e::es) X.env=(false,eval e X.env)::starEach es X.env:=by rfl) (hpl:(backTo pos (starEach es X.env)).any (·.1)=false:=by rfl):PE X (.Call (.Name x p0) (e::es) [] pos) (lD C (u5 G XE tf cz)):=by
 intro pins s σ H Q I ⟨p,F,R,rs,ht,hq⟩
 refine yZ (bh (hn pins s σ H _ I ⟨p,F,_,rs,ht,λv H1 z=>z⟩) λfv s1 zq=>?_)
 obtain ⟨v,H1,I1,r1,e1,p1,F1,O,s1',Ny,Y,f,S,h1,h2,U⟩:=zq
 have ev:=cZ Y h1
 subst ev
 obtain rfl:=r1
 obtain ⟨k,fd,ps,fn,hr,hb,kp⟩:=hG f S h2
 refine xj (h₀:=X.base) I.ok.mod.NQ kp (bh (ha pos pins s1 σ H1 _ I1 ⟨p1,F1,_,O,U,λvs H2 z=>z⟩) λus s2 ⟨vs,H2,D,r2,es2,p2,F2,n,s2',Nv,B,as,Cl,Z,nd,hS,q⟩=>⟨D.qj,?_⟩) he hpl
 refine uG (E:=λcl _ H'=>∃J,cl=.ref J/\GX C XE J σ H') fn hr hb D r2 ?_ λev s' hx=>?_
 ·rw [hK]
  exact ⟨as,F2,Cl,n.sub,(fZ n B Z nd).1,hS,λF' H' po=>⟨Cl,rfl,_,F',(n.call B Z nd po).1,q⟩⟩
 ·obtain ⟨a',J,H',z1,z2,z3,un,hok,tr,C'',z4,g⟩:=hx
  subst z1
  cases z4
  exact lk pins σ H2 s2 H' s' a' J D (D.call' z2 un hok z3 (λb z=>absurd z (by simp))) tr g
end
theorem CJ {ti:sE} {B:TQ} {Q:Rt->aG->Prop} {p:aG} {n m:Nat} {a b:Nat->D} {p1:aG} (I:∀Q:Nat->(Nat->D)->aG->Prop,Q n (λi=>.tup [a i,b i]) p1->ti p Q) (U:n<=100000) (f:Nat->D)
  (O:∀i (R:Ev->aG->Prop),i<n->i<m->R (.fz (f i)) (some (.d (a i))::some (.d (b i))::p1)->B (some (.d (a i))::some (.d (b i))::p1) R) (J:∀R:Ev->aG->Prop,m<n->B (some (.d (a m))::some (.d (b m))::p1) R)
  (hd:n<=m->Q (.ro ((List.range n).map f)) p1):mU 2 ti (xQ 2 (oF (lH 0) (oF (lH 1) xP))) uR B p Q:=by
 refine Ce I U (λi ys p2=>i<=m/\ys=(List.range i).map f/\∃o u:Option D,p2=(o.map Sl.d)::(u.map Sl.d)::p1) ⟨yN _,rfl,none,none,rfl⟩ (λi ys p2 h=>by rw [h.2.1,z9,List.length_range];exact zC _) ?_ ?_
 ·rintro i ys p2 hi ⟨Z,rfl,o,u,rfl⟩
  refine ⟨_,rfl,rfl,_,_,rfl,by cases o<;>rfl,_,_,rfl,by cases u<;>rfl,rfl,?_⟩
  show uR (some (.d (a i))::some (.d (b i))::p1) _
  unfold uR
  simp only [if_true]
  by_cases z:i<m
  ·refine O i _ hi z ⟨_,rfl,by omega,?_,some (a i),some (b i),rfl⟩
   rw [List.range_succ,yp];rfl
  ·have e:i=m:=by omega
   subst e
   exact J _ hi
 ·rintro ys p2 ⟨Y,rfl,o,u,rfl⟩
  exact hd Y
section
variable {X:Cx} {C:Pc} {e o:Expr} {pos apos:Pos} {F0:Hp} {es:List Expr} {cz:TAQ} {XE:Addr->aG->Prop}
theorem K8 {z: Addr} {m : Str} {k : Nat} (Y : X.K = C.K) (I : PE X o (Up (C.at F0) to)) (c : tD X.K Kl) (J : Meth X.K Kl m z) (G : bO X.prog X.w X.K X.mg X.base lB k z fd ps (VB X.K S)) (D : bI k X.A) (O : Binds X.K fd ps []) (U : PA X (e :: es) (gA (C.at F0) cz))
    (n : starEach (e :: es) X.env = (false, eval e X.env) :: starEach es X.env := by rfl) (hpl : (backTo pos (starEach es X.env)).any (·.1) = false := by rfl)
    (B : eval (.Call (.Attribute o m apos) (e :: es) [] pos) X.env = (do
      let ov ← eval o X.env
      standAt apos.atName
      let (f, first) ← holding [ov] (getMethod ov m pl)
      callWith pos f first (backTo pos (starEach (e :: es) X.env)) (backToKw pos (keywordEach [] X.env))) := by rfl) :
    PE X (.Call (.Attribute o m apos) (e :: es) [] pos) (lD (C.at F0) (uY C S Kl m to cz)) := bZ (C := C.at F0) Y I c J G D O U n hpl B
theorem K9 {z: Addr} {m : Str} {k : Nat} (Y : X.K = C.K) (I : PE X o (Up (C.at F0) to)) (c : tD X.K Kl) (J : Meth X.K Kl m z) (G : bO X.prog X.w X.K X.mg X.base (nP X.prog X.w) k z fd ps (P0 X.K S)) (D : bI k X.A) (O : Binds X.K fd ps [])
    (lk : qH X (GX (C.at F0) XE)) (U : PA X (e :: es) (gA (C.at F0) cz))
    (n : starEach (e :: es) X.env = (false, eval e X.env) :: starEach es X.env := by rfl) (hpl : (backTo pos (starEach es X.env)).any (·.1) = false := by rfl)
    (B : eval (.Call (.Attribute o m apos) (e :: es) [] pos) X.env = (do
      let ov ← eval o X.env
      standAt apos.atName
      let (f, first) ← holding [ov] (getMethod ov m pl)
      callWith pos f first (backTo pos (starEach (e :: es) X.env)) (backToKw pos (keywordEach [] X.env))) := by rfl) :
    PE X (.Call (.Attribute o m apos) (e :: es) [] pos) (lD (C.at F0) (uZ C S Kl m XE to cz)) := Qq (C := C.at F0) Y I c J G D O lk U n hpl B
end
theorem hE {α:Sort _} {P:α->Prop} {a:α} (h:P a):∃x,P x:=⟨a,h⟩
theorem hA {α:Sort _} {a b:α} {P:Prop} (e:a=b) (h:P):a=b/\P:=⟨e,h⟩
theorem hN {P:Prop} (h:P):([]:List Nat).Nodup/\P:=⟨List.nodup_nil,h⟩
theorem hT {P:Prop} (h:P):True/\P:=⟨trivial,h⟩
theorem hL {n:Nat} {P:Prop} (e:Nat.ble n 100000=true) (h:P):n<=100000/\P:=⟨Nat.le_of_ble_eq_true e,h⟩
theorem hC1 {A B:Prop} (e:c=true) (h:A):if c=true then A else B:=by rw [zo e];exact h
theorem hC0 {A B:Prop} (e:c=false) (h:B):if c=true then A else B:=by rw [zi (by rw [e];decide)];exact h
end L2
namespace L2
theorem hG (h:xO t u E p):xO t u E p:=h
theorem hV (h:sW t u E W p):sW t u E W p:=h
theorem jk {c:Prop} {_:Decidable c} {A B:Prop} (n:c->A) (h0:¬c->B):if decide c=true then A else B:=by
 by_cases h:c
 ·rw [zW h];exact n h
 ·rw [zQ h];exact h0 h
theorem Wq {A B:Prop} (n:c=true->A) (h0:c=false->B):if c=true then A else B:=by
 cases c
 ·exact h0 rfl
 ·exact n rfl
theorem hQ {P:Prop} (e:dZ a b) (h:P):dZ a b/\P:=⟨e,h⟩
theorem K_ {A B:Prop} (n:i=j->A) (h0:¬i=j->B):if kW (.int i) (.int j)=true then A else B:=by
 by_cases h:i=j
 ·subst h;rw [show kW (.int i) (.int i)=true by simp [kW]];exact n rfl
 ·rw [show kW (.int i) (.int j)=false by simp [kW,h]];exact h0 h
theorem ac5 {i j:PySem.Str} {A B:Prop} (n:i=j->A) (h0:¬i=j->B):if kW (.str i) (.str j)=true then A else B:=by
 by_cases h:i=j
 ·subst h;rw [show kW (.str i) (.str i)=true by simp [kW]];exact n rfl
 ·rw [show kW (.str i) (.str j)=false by simp [kW,h]];exact h0 h
theorem hD {i j:Int} {P:Prop} (e:decide (0<j/\j<18446744073709551616)=true) (h:P):DR i j/\P:=⟨⟨(xm e).1,.inl (xm e).2⟩,h⟩
theorem nbv (e:p[i]? = some (Option.map Sl.d v)):pA p i=true:=by
 unfold pA;rw [e];cases v<;>rfl
theorem hX {α β:Sort _} {b:β} {g:α->β} {a:α} {P:Prop} (e:b=g a) (h:P):(∃z,b=g z)/\P:=⟨⟨a,e⟩,h⟩
end L2
namespace L2
open PySem PySem.Spec PyProof.Rows
section
variable {X:Cx} {C:Pc} {e f g:Expr} {ta tb tc:TQ} {pos:Pos} {j:Nat}
theorem qi:PE X (.Constant (.int i) j pos) (Up C (qC (.int i))):=jc Hr (λ_=>.int _)
theorem qs:PE X (.Constant (.str x) j pos) (Up C (qC (.str x))):=jc Tt (λ_=>.str _)
theorem qv (i:Nat) (hN:X.N[i]? = some x:=by rfl) (z:Xy X.env.scope x:=by first|exact Or.inl rfl|exact Or.inr (Or.inl rfl)|exact Or.inr (Or.inr rfl)) (hd:(x == ("__debug__":Str))=false:=by decide) (n:(x == ("__classdict__":Str))=false:=by decide):PE X (.Name x pos) (Up C (O6 i)):=YT (pv i hN z hd n)
theorem qx (z:X.K=C.K) (n:PE X e (Up C ta)):PE X (.Subscript e (.Constant (.int i) j p) pos) (Up C (qIx ta (qC (.int i)))):=Pg z n qi (λ_ _=>rfl)
theorem lc (h:Loc sc x:=by first|exact Or.inl rfl|exact Or.inr rfl):Loc sc x:=h
theorem bI.m {k n:Nat} {A:Around} (h:bI k A) (e:n<=k:=by first|decide|omega):bI n A:=h.mono e
theorem sr (h:PE X e (Up C ta)):fX X [.Return (some e) pos] (iw C (Pj (Pa ta))):=aQ (cH (qM h))
theorem a1 (h:PE X e (Up C ta)) (n:starEach [e] X.env=(false,eval e X.env)::starEach [] X.env:=by rfl):PA X [e] (gA C (kY ta Gn)):=cA h pq n
theorem a2 (h:PE X e (Up C ta)) (B:PE X f (Up C tb)) (z:starEach [e,f] X.env=(false,eval e X.env)::starEach [f] X.env:=by rfl) (n:starEach [f] X.env=(false,eval f X.env)::starEach [] X.env:=by rfl):PA X [e,f] (gA C (kY ta (kY tb Gn))):=cA h (a1 B n) z
theorem a3 (h:PE X e (Up C ta)) (I:PE X f (Up C tb)) (D:PE X g (Up C tc)) (B:starEach [e,f,g] X.env=(false,eval e X.env)::starEach [f,g] X.env:=by rfl) (z:starEach [f,g] X.env=(false,eval f X.env)::starEach [g] X.env:=by rfl) (n:starEach [g] X.env=(false,eval g X.env)::starEach [] X.env:=by rfl):PA X [e,f,g] (gA C (kY ta (kY tb (kY tc Gn)))):=cA h (a2 I D z n) B
theorem aS {x:Str} {es:List Expr} {n:TAQ} (B:PA X es (gA C n)) (z:starEach (.Constant (.str x) j pos::es) X.env=(false,eval (.Constant (.str x) j pos) X.env)::starEach es X.env):PA X (.Constant (.str x) j pos::es) (gA C (kY (qC (.str x)) n)):=cA qs B z
end
section
variable {X:Cx}
theorem El {M:Model} {A:Around} {E:Value->Shared->Prop} {K:PySem.W.Frag} {mg:Str->Option Value} {x:Str} {C D e:Addr} {B:Obj} {h:Heap} {g:Array GenState} {d:Drawn} {t:Nat} {os:OsState} {Q:Bool->Shared->Prop} {k:Bool} (I:K.In h)
  (c:DP K mg x D) (sub:PySem.W.subIn K (.ref C) (.ref D)=some k) (he:h.get? e=some B) (n:B.cls=.ref C) (U:Q k ⟨h,g,d,t,os⟩):wpAny M A (excMatches (.ref e) (.ref D)) Q E ⟨h,g,d,t,os⟩:=by
 obtain ⟨O,n0,J,q0,b0,d0,s0,u0,a0,c0,dd0,j0,j1,j2,j3,j5,f0,hD,hN,Y,T⟩:=(c.own I).obj
 have Z:(Value.ref D::O).contains (.type "BaseException")=true:=by rw [List.contains_cons,T.hasType F.excBase_ValueError.hasBase,Bool.or_true]
 have ft:=tc_notTuple
 have lk:=PySem.W.looks_subIn (M:=M) I sub
 unfold excMatches
 repeat (first|(with_reducible refine x9 he ?_;rw [n])|with_reducible refine x9 hD ?_|(with_reducible refine wpAny_isSubtype_exc hD ?_;rw [Z])|wp_step)
 refine lk A _ E ⟨h,g,d,t,os⟩ (λ_ _ z=>z) ?_
 cases k<;>(wp_walk;exact U)
inductive lU (X:Cx) (pins:List (Addr × Obj)) (Ca:Addr) (D:Ends) (σ:St) (H:Hp):List ExceptHandler->Prop
 | here {x:Str} {C:Addr} {np hpos:Pos} {b₀:Stmt} {suite:List Stmt} {r:List ExceptHandler}:DP X.K X.mg x C->Gl X x->(x == ("__debug__":Str))=false->PySem.W.subIn X.K (.ref Ca) (.ref C)=some true->(∀a:Addr,∃th,fX (X.suite pins (X.A.mark (some (.ref a)))) (b₀::suite) th/\th D σ H)->lU X pins Ca D σ H (.ExceptHandler (some (.Name x np)) none (b₀::suite) hpos::r)
 | next {x:Str} {C:Addr} {np hpos:Pos} {b:List Stmt} {r:List ExceptHandler}:DP X.K X.mg x C->Gl X x->(x == ("__debug__":Str))=false->PySem.W.subIn X.K (.ref Ca) (.ref C)=some false->lU X pins Ca D σ H r->lU X pins Ca D σ H (.ExceptHandler (some (.Name x np)) none b hpos::r)
variable {pins:List (Addr × Obj)} {σ:St} {H:Hp} {s:Shared} {E:Value->Shared->Prop} {A:Around}
theorem lU.ok {Ca a T:Addr} {D:Ends} {hl:List ExceptHandler} {O oT:Obj} {vs ts:Array Value} {fl:Value} (h:lU X pins Ca D σ H hl) (hs:X.stack=X.env::X.outer) (hL:X.env.frame=some X.env.locals) (hx:X.ex=[]) (I:Inv X pins σ H s) (U:s.heap.get? a=some O) (hc:O.cls=.ref Ca) (b3:O.data=.fields vs) (b4:vs[1]? = some (.ref T)) (c1:s.heap.get? T=some oT) (c2:oT.data=.fields ts) (c3:ts[3]? = some fl) (nf:T ∉ frs X.stack)
  (fT:X.s₀.heap.get? T=none/\H T=none/\T≠X.env.locals/\(∀y c,X.env.cells.lookup y=some c->c≠T)/\∀p∈X.pn++pins,p.1≠T):wpAny (model X.prog X.w) X.A (handleBy (.ref a) X.env hl) (SP X pins D) X.xe s:=by
 have B:=I.suite (A:=X.A.mark (some (.ref a))) rfl
 induction h with
 | next c hg hdb sub _ ih=>
  refine wpAny_handleBy_cons (codeAny_handlers_test ?_) (by intro q;cases q)
  refine jf (X:=X.suite pins (X.A.mark (some (.ref a)))) B hg c.m ?_ hdb
  exact El (K:=X.K) B.qj c sub U hc ih
 | here c hg hdb sub g=>
  refine wpAny_handleBy_cons (codeAny_handlers_test ?_) (by intro q;cases q)
  refine jf (X:=X.suite pins (X.A.mark (some (.ref a)))) B hg c.m ?_ hdb
  refine El (K:=X.K) B.qj c sub U hc ?_
  refine codeAny_handlers_suite ?_
  refine o9 U b3 b4 c1 c2 c3 λh5 k5 zq=>?_
  obtain ⟨oT5,ts5,d1,d2,d3⟩:=zq
  have J5:=qI (t':=s.toks) hs hL hx I (xJ k5 nf) (λb hb=>by rw [zD.mp hb];exact fT)
  have K5:=J5.suite (A:=X.A.mark (some (.ref a))) rfl
  obtain ⟨th,hh,ht⟩:=g a
  refine xo (hh [] _ _ _ D K5 ht) (λf s8 q=>?_) λ_ _ z=>z.elim
  cases f with
  | ret u=>
   obtain ⟨v,n,Z,Y,r,J⟩:=q
   exact ⟨v,n,Z,Y.DQ I.ok.hd I.ok.frames,r,J⟩
  | _=>
   obtain ⟨n,Z,Y,J⟩:=q
   exact ⟨n,Z,Y.DQ I.ok.hd I.ok.frames,J⟩
theorem Qt {body:List Stmt} {h₀:ExceptHandler} {n:List ExceptHandler} {pos:Pos} {D:Ends} {G:Addr->St->Hp->Prop}
  (Y:X.stack=X.env::X.outer) (hL:X.env.frame=some X.env.locals) (hx:X.ex=[]) (I:Inv X pins σ H s)
  (B:∀E:Value->Shared->Prop,qH (X.held pins E) G->∃tb,fX (X.held pins E) body tb/\tb D σ H)
  (hG:∀(Ca:Addr) (σ':St) (H':Hp),G Ca σ' H'->lU X pins Ca D σ' H' (h₀::n)):wpAny (model X.prog X.w) X.A (exec (.Try body (h₀::n) [] [] pos) X.env) (SP X pins D) X.xe s:=by
 refine wpAny_Try_except ?_
 have lk:qH (X.held pins (λe s₁=>wpAny (model X.prog X.w) X.A (noteFrame e X.env) (λ_ s₂=>wpAny (model X.prog X.w) X.A (setFlight e none) (λ_ Z=>wpAny (model X.prog X.w) X.A (handleBy e X.env (h₀::n)) (SP X pins D) X.xe Z) X.xe s₂) X.xe s₁)) G:=by
  intro aeY σ1 H1 s1 H2 s2 a Ca I1 I2 tr g0
  have g:=hG Ca σ1 H2 g0
  have J1:=I1.less.ou
  have J2:=I2.less.ou
  obtain ⟨t0,t1,oe,vs,T,oT,ts,a1,a2,a3,a4,a5,a6,a7,a8,a9,a10⟩:=tr
  have O:∀{σ':St} {H':Hp} {s':Shared},Inv X pins σ' H' s'->∀b,s'.heap.get? b=none->X.s₀.heap.get? b=none/\H' b=none/\b≠X.env.locals/\(∀y c,X.env.cells.lookup y=some c->c≠b)/\∀p∈X.pn++pins,p.1≠b:=λ{σ' H' s'} J b z=>by
   refine ⟨?_,?_,λy=>?_,λy c e y'=>?_,λp hp y=>?_⟩
   ·cases q:X.s₀.heap.get? b with
    | none=>rfl
    | some o=>obtain ⟨_,e⟩:=J.base.there b o q (by show b ∉ X.ex;rw [hx];intro z;cases z);rw [z] at e;cases e
   ·cases q:H' b with
    | none=>rfl
    | some o=>obtain ⟨_,e⟩:=(J.hok _ _ q).ex;rw [z] at e;cases e
   ·obtain ⟨m,⟨o,_,_,ho,_⟩,_⟩:=J.loc
    rw [<-show b=_ from y,z] at ho;cases ho
   ·obtain ⟨v,o,ho,_⟩:=J.cell y c e
    rw [y',z] at ho;cases ho
   ·have:=(J.pin p hp).1
    rw [y,z] at this;cases this
  have fa:=O J1 a t1
  have fT:=O J1 T a6
  show wpAny (model X.prog X.w) X.A (noteFrame (.ref a) X.env) _ X.xe s2
  refine Gj (base:=X.base) (outer:=X.outer) (by rw [<-Y];exact I.ok.frames) (by rw [<-Y];exact J2.stack) hL a1 a3 a4 a5 a8 a9 a10 λh3 n3 zq=>?_
  obtain ⟨oe',vs',T',oT',ts',fl,b1,b2,b3,b4,b5,b6,b7,b8,b9⟩:=zq
  have J3:=qI (t':=s2.toks) Y hL hx J2 (by rw [Y];exact n3) (λb B=>by
   rcases zu.mp B with rfl|B
   ·exact ⟨fa.1,t0,fa.2.2⟩
   ·rw [zD.mp B];exact ⟨fT.1,a7,fT.2.2⟩)
  have fT':X.s₀.heap.get? T'=none/\H2 T'=none/\T'≠X.env.locals/\(∀y c,X.env.cells.lookup y=some c->c≠T')/\∀p∈X.pn++pins,p.1≠T':=by
   rcases b6 with z|z
   ·exact O J2 T' z
   ·rw [z];exact ⟨fT.1,a7,fT.2.2⟩
  have nf3:T' ∉ frs X.stack:=λz=>by
   obtain ⟨_,o,q,nf⟩:=J3.stack.mem z
   rw [show h3.get? T'=some oT' from b7] at q;cases q
   exact nf _ b8
  refine o9 (s:={ s2 with heap:=h3 }) b1 b3 b4 b7 b8 b9 λh4 k4 zq=>?_
  obtain ⟨oT4,ts4,c1,c2,c3⟩:=zq
  have J4:=qI (t':=s2.toks) Y hL hx J3 (xJ k4 nf3) (λb B=>by rw [zD.mp B];exact fT')
  have e4:h4.get? a=some oe':=k4 a oe' b1 (Ne.symm b5)
  exact g.ok Y hL hx J4 e4 (by rw [b2,a2]) b3 b4 c1 c2 c3 nf3 fT'
 obtain ⟨tb,hb',hq⟩:=B _ lk
 refine xo (hb' [] s σ H D I.held hq) (λf s1 q=>?_) λ_ _ z=>z
 cases f with
 | next=>
  obtain ⟨σ',H',U,q⟩:=q
  exact xH ⟨σ',H',U.ou,q⟩
 | brk=>obtain ⟨σ',H',U,q⟩:=q;exact ⟨σ',H',U.ou,q⟩
 | cont=>obtain ⟨σ',H',U,q⟩:=q;exact ⟨σ',H',U.ou,q⟩
 | ret u=>obtain ⟨v,σ',H',U,r,q⟩:=q;exact ⟨v,σ',H',U.ou,r,q⟩
end
section
variable {X:Cx} {C:Pc} {pos np hpos:Pos} {x:Str}
inductive HL (X:Cx) (C:Pc):List ExceptHandler->List (Addr × iu)->Prop
 | nil:HL X C [] []
 | cons {x:Str} {D:Addr} {np hpos:Pos} {b₀:Stmt} {suite:List Stmt} {r:List ExceptHandler} {th:iu} {l:List (Addr × iu)} (c:DP X.K X.mg x D) (hh:∀(F0:Hp) (pins:List (Addr × Obj)) (A:Around),fX (X.suite pins A) (b₀::suite) (iw (C.at F0) th)) (hr:HL X C r l) (hg:Gl X x:=by rfl) (hdb:(x == ("__debug__":Str))=false:=by decide):HL X C (.ExceptHandler (some (.Name x np)) none (b₀::suite) hpos::r) ((D,th)::l)
def Ac (K:PySem.W.Frag) (n:Addr) (E:gY) (p:aG):List (Addr × iu)->Prop
 | []=>False
 | (D,th)::r=>∃k,PySem.W.subIn K (.ref n) (.ref D)=some k/\if k=true then th E p else Ac K n E p r
def La (K:PySem.W.Frag) (l:List (Addr × iu)) (n:(Addr->aG->Prop)->iu):iu:=λE p=>n (λB z=>Ac K B E z l) E p
theorem HL.caught {F0:Hp} {n:List (Addr × Obj)} {J:Addr} {D:Ends} {z:St} {H:Hp} {E:gY} {p:aG} (I:∀th,th E p->iw (C.at F0) th D z H):∀{B:List ExceptHandler} {l:List (Addr × iu)},HL X C B l->Ac X.K J E p l->lU X n J D z H B
 | _,_,.nil,h=>h.elim
 | _,_,.cons c hh r hg hdb,⟨k,sub,h⟩=>by
  cases k with
  | true=>exact .here c hg hdb sub λa=>⟨_,hh F0 n _,I _ h⟩
  | false=>exact .next c hg hdb sub (HL.caught I r h)
theorem Wr {body:List Stmt} {h₀:ExceptHandler} {hl:List ExceptHandler} {l:List (Addr × iu)} {tb:(Addr->aG->Prop)->iu}
  (hb:∀(F0:Hp) (pins:List (Addr × Obj)) (E:Value->Shared->Prop) (XE:Addr->aG->Prop),qH (X.held pins E) (GX (C.at F0) XE)->fX (X.held pins E) body (iw (C.at F0) (tb XE)))
  (hh:HL X C (h₀::hl) l) (hs:X.stack=X.env::X.outer:=by rfl) (hL:X.env.frame=some X.env.locals:=by rfl) (hx:X.ex=[]:=by rfl) :
  PS X (.Try body (h₀::hl) [] [] pos) (iw C (La X.K l tb)):=by
 intro pins s σ H De I ⟨p,F,E,Z,ht,le⟩
 have un:∀{F2:Hp},aM F F2->(E.dn (C.at F) F2).Le (E.dn C F):=λ{F2} z=>⟨λn H1 B=>by obtain ⟨J,F1,U,O,q1⟩:=B;exact ⟨J,F1,(Z.PN U).1,z.trans O,q1⟩,λv H1 B=>by obtain ⟨r,J,n,F1,U,O,rr,q1⟩:=B;exact ⟨r,J,n,F1,(Z.PN U).1,z.trans O,by cases r<;>exact rr,q1⟩,λn H1 B=>by obtain ⟨J,F1,U,O,q1⟩:=B;exact ⟨J,F1,(Z.PN U).1,z.trans O,q1⟩,λn H1 B=>by obtain ⟨J,F1,U,O,q1⟩:=B;exact ⟨J,F1,(Z.PN U).1,z.trans O,q1⟩⟩
 refine bh (Qt (D:=E.dn C F) (G:=GX (C.at F) λCl J=>Ac X.K Cl E J l) hs hL hx I (λE' lk=>⟨_,hb F pins E' _ lk,p,F,E,Z.at,ht,un (.refl _)⟩) λCa σ' H' B=>by obtain ⟨p',F',Y,hp⟩:=B;exact hh.caught (F0:=F) (λth h=>⟨p',F',E,Y,h,un Y.ext⟩) hp) λ_ _ q=>q.le le
end
section
variable {X:Cx} {C:Pc} {e e1 e2:Expr} {pos pos':Pos} {t1 t2:Km} {t:mD}
def vUp (t:Hp->TQ):Km:=λW p Q=>t W p λe n=>∃d,e=.fz d/\Q d W n
theorem ac7 {t:Hp->TQ} (h:∀W,cI C W->PE X e (Up (C.add W) (t W))):PE X e (y_ C (vUp t)):=λpins s σ H Q I n=>by
 obtain ⟨W,p,F,R,O,ok,Y,Z⟩:=n
 exact sX h pins s σ H Q I ⟨W,ok,up1 O Y λe1 U D F1 H1 z J sh B n=>by obtain ⟨d,he,q⟩:=n;subst he;exact Z d D W U F1 H1 z ok J B q⟩
def Lb (I D:Km) (t:mD):mD:=λE W p=>I W p λz O J=>D O J λn B p2=>oG z/\oG n/\if oH z n=true then E.nx B p2 else t E B p2
theorem Ws {a:List Stmt} (hK:X.K=C.K) (hu:X.A.units+64<cLine) (h1:PE X e1 (y_ C t1)) (h2:PE X e2 (y_ C t2)) (ha:fX X a (mY C t)):PS X (.If (.Compare e1 [.NotEq] [e2] pos') a [] pos) (mY C (Lb t1 t2 t)):=
 VS.mk (Hv (jg (Eb hK hu) h1 h2 (fO _)) ha uw) λW p σ F H E rs ok U=>⟨W,p,F,_,rs,ok,U,λB v1 W1 p1 F1 H1 J O s1 r1 U=>⟨W1,p1,F1,_,J,O,U,λY v2 D p2 Z H2 n z I r2 zq=>by
  obtain ⟨o1,o2,q⟩:=zq
  refine ⟨B,Y,tY (C:=C.add D) (e:=.fz B) n (show kI _ p2 σ Z (.fz B) v1 from r1.mono I),tY (C:=C.add D) (e:=.fz Y) n r2,o1,o2,_,rfl,?_⟩
  cases hd:oH B Y with
  | true=>rw [hd,zo rfl] at q;exact ⟨D,p2,Z,n,z,s1.trans I,q⟩
  | false=>rw [hd,zi (by decide)] at q;exact ⟨D,p2,Z,E,n,z,q,uX (s1.trans I)⟩⟩⟩
end
section
variable {X:Cx} {C:Pc} {a b c e o:Expr} {ta tb:TQ} {cz:TAQ} {pos ps apos:Pos} {K:PySem.W.Frag} {pins:List (Addr × Obj)} {σ:St} {H H':Hp} {s:Shared} {h':Heap}
theorem ZV {z:CmpOp} {J:Int->Int->V} {g:Int->Int->D} (ho:g8 X (compareOp z) (Bb J)) (hg:∀i j F,Rep C.K F (g i j) (J i j)) (hm:behindInMarks z b=false) (ha:PE X a (Up C ta)) (hb:PE X b (Up C tb)) :
  PE X (.Compare a [z] [b] pos) (Up C (Gk g ta tb)):=
 QE.mk (pL ho ha hb hm) λp σ F H R Y Z=>tV Y Z λe1 e2 p1 v1 v2 F1 H1 n U sh I B O=>by obtain ⟨i,j,h1,h2,q⟩:=O;exact ⟨i,j,aP I h1,aP B h2,aY n U sh (hg i j F1) q⟩
theorem ac8 (z:PE X a (Up C ta)) (n:PE X b (Up C tb)):PE X (.Compare a [.Gt] [b] pos) (Up C (Gk (λi j=>.bl (decide (j<i))) ta tb)):=ZV RL (λ_ _ _=>.bl _) (fO _) z n
def ZW (K:PySem.W.Frag):List V->Hp->VK->Prop:=λxs H Q=>∃(a:Addr) (ns:List Int),xs=[.ref a]/\iI K H a (ns.map V.int)/\Q (.int ns.sum) H
theorem Ld (O:X.calm=true):gn X (.builtin "sum") (ZW X.K):=by
 intro pins s σ H xs Y Q I r h
 obtain ⟨a,ns,rfl,J,q⟩:=h
 obtain ⟨u,rfl,B⟩:=vals1 r
 cases B
 obtain ⟨D,z,pl,hz⟩:=I.list J
 have hi:=jh z
 obtain ⟨ys,n⟩:=hi.allInts.items
 have U:ys.toList.map (·.1)=ns:=by
  rw [<-nums_intItems,<-n]
  exact hi.numsOf
 refine sum_intListG (xs:=ys) (I.ok.hd O) (by rw [<-n];exact pl.isList) λh' tk Z k=>?_
 have es:preSum (numAt ys) ys.size=ns.sum:=by
  rw [preSum_eq,List.take_of_length_le (by simp),U]
 rw [es]
 exact ⟨.int ns.sum,H,I.kept k,⟨_,rfl⟩,q⟩
theorem GK (h:X.K=K) (n:X.calm=true):gn X (.builtin "sum") (ZW K):=by subst h;exact Ld n
def Wt (z:TAQ):TQ:=λp Q=>z p λes n=>∃(e:Ev) (ns:List Int),es=[e]/\lk n e=.lst (ns.map D.int)/\Q (.fz (.int ns.sum)) n
theorem Wu (hK:X.K=C.K) (Z:X.calm=true) (Y:Gl X "sum") (U:X.mg "sum"=none) (ha:PA X [e] (gA C cz)) (he:starEach [e] X.env=(false,eval e X.env)::starEach [] X.env:=by rfl):PE X (.Call (.Name "sum" ps) [e] [] pos) (Up C (Wt cz)):=
 QE.mk (fj (GK hK Z) Y U (by kernel_rfl) ha (he:=he)) λp σ F H R J O=>dz J O λes1 p1 D F1 H1 n I sh z B=>by
  obtain ⟨e1,ns,h1,h2,q⟩:=B
  obtain ⟨v,rfl,er⟩:=oA z h1
  obtain ⟨a1,vs,rfl,g,r⟩:=ig n er h2
  rw [r.ints] at g
  exact ⟨a1,ns,rfl,.of g,aY n I sh (.int _) q⟩
def Em (K:PySem.W.Frag):List V->Hp->VK->Prop:=λxs H Q=>∃(a:Addr) (ns:List Int),xs=[.ref a]/\iI K H a (ns.map V.int)/\ns.length<64/\∀n:List Int,n.Perm ns->n.Pairwise (·<=·)->∀l,H l=none->Q (.ref l) (upd H l (.lst (n.map V.int)))
theorem Ad:gn X (.builtin "sorted") (Em X.K):=by
 intro pins s σ H xs Y Q I r h
 obtain ⟨a,ns,rfl,O,hl,q⟩:=h
 obtain ⟨u,rfl,J⟩:=vals1 r
 cases J
 obtain ⟨B,D,pl,hz⟩:=I.list O
 have Z:B.length=ns.length:=by rw [<-D.length,z9]
 refine sorted_ints pl.isList (jh D) (by omega) λout z a1 a2 a3=>?_
 obtain ⟨n,U⟩:=sortedAll_at s.heap B out
 have le:=a2.length_eq
 refine ⟨.ref _,_,I.laid (t':=s.toks) (λb o=>sortedAll_old) (Nat.le_succ _) (show bK X.prog X.w _ _ _ (.lst (z.map V.int)) from ⟨by rw [z9,xG];omega,out.toList,n,nU a1,by rw [Array.toArray_toList];exact U⟩),rfl,q z a2 a3 _ (I.hok.fresh (Nat.le_succ _))⟩
theorem u6 (h:X.K=K):gn X (.builtin "sorted") (Em K):=by subst h;exact Ad
def u9 (B:TAQ):TN:=λp Q=>B p λes z=>∃(e:Ev) (ns:List Int),es=[e]/\lk z e=.lst (ns.map D.int)/\ns.length<64/\∀n:List Int,n.Perm ns->n.Pairwise (·<=·)->Q (.ro (n.map D.int)) z
theorem Lf (hK:X.K=C.K) (hg:Gl X "sorted") (Z:X.mg "sorted"=none) (ha:PA X [e] (gA C cz)) (he:starEach [e] X.env=(false,eval e X.env)::starEach [] X.env:=by rfl):PE X (.Call (.Name "sorted" ps) [e] [] pos) (lD C (u9 cz)):=
 QN.mk (fj (u6 hK) hg Z (by kernel_rfl) ha (he:=he)) λp σ F H R U Y=>dz U Y λes1 D J F1 H1 n O sh B I=>by
  obtain ⟨e1,ns,h1,h2,h3,q⟩:=I
  obtain ⟨v,rfl,er⟩:=oA B h1
  obtain ⟨a1,vs,rfl,g,r⟩:=ig n er h2
  rw [r.ints] at g
  exact ⟨a1,ns,rfl,.of g,h3,λz D p2 l hl=>fY n O sh hl (aK.mO z) (q z D p2)⟩
end
section
variable {X:Cx} {C:Pc} {a b c e o:Expr} {ta tb tc:TQ} {pos apos:Pos} {K:PySem.W.Frag} {p:aG} {σ:St} {F H:Hp} {st:Stmt} {es:List Expr} {cz:TAQ} {x:Str} {XE:Addr->aG->Prop} {t u:mD}
def CK (C:Pc) (S:Bc) (J:Addr) (m:Str) (B:TQ) (D:TAQ):TN:=λp Q=>B p λI z=>∃x dx fs,lk z I=.atom (.ref x)/\C.H0 x=some (.ins J dx fs)/\(∀q∈C.bs,q.2≠x)/\fs.lookup m=none/\D z λes p2=>∃as,dj p2 (.fz (.atom (.ref x))::es)=some as/\(dY es).Nodup/\∀H,Kp C H->S H as λr n=>Q r (back p2 (.fz (.atom (.ref x))::es) n)
theorem Qu {pl : Sem Bool} {Kl fa : Addr} {m : Str} {fd : FuncData} {ps : List Str} {k : Nat} {S : Bc} {to : TQ} (hK : X.K = C.K) (ho : PE X o (Up C to)) (c : tD X.K Kl) (hm : Meth X.K Kl m fa) (G : bO X.prog X.w X.K X.mg X.base lB k fa fd ps (VB X.K S)) (hr : bI k X.A) (hb : Binds X.K fd ps []) (ha : PA X (e :: es) (gA C cz))
    (hst : starEach (e :: es) X.env = (false, eval e X.env) :: starEach es X.env := by rfl) (hpl : (backTo pos (starEach es X.env)).any (·.1) = false := by rfl)
    (ht : eval (.Call (.Attribute o m apos) (e :: es) [] pos) X.env = (do
      let ov ← eval o X.env
      standAt apos.atName
      let (f, first) ← holding [ov] (getMethod ov m pl)
      callWith pos f first (backTo pos (starEach (e :: es) X.env)) (backToKw pos (keywordEach [] X.env))) := by rfl) :
    PE X (.Call (.Attribute o m apos) (e :: es) [] pos) (lD C (CK C S Kl m to cz)) :=
  QN.mk (uA ho c hm G hr hb .nil tL ha hst hpl ht) λp σ F H R rs ht => up1 rs ht λe1 p1 v1 F1 H1 z s1 O Gz Y => by
    obtain ⟨x, dx, fs, h1, h2, h2', h3, Z⟩ := Y
    have ev := cZ Gz h1
    subst ev
    refine ⟨x, dx, fs, rfl, z.keep _ _ h2 h2', h3, dz z Z λes2 p2 D F2 H2 n s2 J xN Y => ?_⟩
    obtain ⟨as, g1, nd, q⟩ := Y
    have B : mR C.K p2 σ F2 (.fz (.atom (.ref x)) :: es2) (.ref x :: D) := .cons (show Rep _ _ (.atom (.ref x)) _ from .atom _) xN
    rw [ya, hK]
    refine ⟨as, F2, _, n.sub, (fZ n B g1 nd).1, q H2 n.kp, λr as' v F' H' po hq => ?_⟩
    obtain ⟨U, I, rr⟩ := n.call B g1 nd po
    exact ⟨r, _, F', U, s1.trans (s2.trans po.ext), O.trans (J.trans I), rr, hq⟩
end
end L2
namespace M
def val (b:Int) (ds:List Int):Int:=ds.foldl (λn d=>n * b+d) 0
theorem j9 (b:Int):∀(ds:List Int) (a:Int),ds.foldl (λn d=>n * b+d) a=a * b ^ ds.length+val b ds
 | [],a=>by simp [val]
 | d::r,a=>by
  have h1:=j9 b r (a * b+d)
  have h2:=j9 b r (0 * b+d)
  show r.foldl _ (a * b+d)=a * b ^ (r.length+1)+r.foldl _ (0 * b+d)
  rw [h1,h2,zL]
  generalize b ^ r.length=p
  generalize val b r=v
  rw [Int.add_mul,Int.add_mul,xF a b p,yA b p]
  omega
theorem dN (b d:Int) (r:List Int):val b (d::r)=d * b ^ r.length+val b r:=by
 show r.foldl _ (0 * b+d)=_
 rw [j9]
 simp
theorem gF (b d:Int) (xs:List Int):val b (xs++[d])=val b xs * b+d:=by
 unfold val
 rw [List.foldl_append]
 rfl
def terms (b:Int):List Int->List Int
 | []=>[]
 | d::r=>d * b ^ r.length::terms b r
def le (b:Int):List Int->Int
 | []=>0
 | d::r=>d+b * le b r
theorem val_rev (b:Int):∀n:List Int,val b n.reverse=le b n
 | []=>rfl
 | d::r=>by
  rw [yu,gF,val_rev b r]
  show le b r * b+d=d+b * le b r
  rw [yA];omega
theorem u_ (b x:Int):∀n:List Int,le b (n++[x])=le b n+x * b ^ n.length
 | []=>by simp [le]
 | d::r=>by
  show d+b * le b (r++[x])=d+b * le b r+x * b ^ (r.length+1)
  rw [u_ b x r,zL,Int.mul_add]
  generalize b ^ r.length=p
  have:b * (x * p)=x * (p * b):=by rw [yA p b,<-xF,<-xF,yA b x]
  omega
theorem au {b:Int} (h:0<b) (n:Nat):0<b ^ n:=Int.pow_pos h
theorem gG {b:Int} (h:2<=b):∀n:Nat,(2:Int) ^ n<=b ^ n
 | 0=>by simp
 | n+1=>by
  rw [zL,zL]
  have q:=gG h n
  have p:=au (show (0:Int)<2 by decide) n
  exact yO q h (by decide) (by omega)
theorem oO {m n:Nat} (h:m<=n):(2:Int) ^ m<=2 ^ n:=by
 obtain ⟨k,rfl⟩:=Nat.exists_eq_add_of_le h
 rw [xz]
 have p:=au (show (0:Int)<2 by decide) m
 have q:=au (show (0:Int)<2 by decide) k
 have:(2:Int) ^ m * 1<=2 ^ m * 2 ^ k:=yo (by omega) (by omega)
 omega
structure fP (b n:Int) (ds:List Int):Prop where
 jD:∀d∈ds,0<=d/\d<b
 val:val b ds=n
 ne:ds≠[]
 hd:ds.length=1\/ds.head?≠some 0
theorem Lg {b:Int} (h:0<=b):∀{rs:List Int},(∀d∈rs,0<=d/\d<b)->0<=le b rs
 | [],_=>yn _
 | d::r,hr=>by
  have h1:=(hr d zn).1
  have h2:=Lg h (rs:=r) λx n=>hr x (zr _ n)
  have:=Int.mul_nonneg h h2
  show 0<=d+b * le b r
  omega
structure Lh (b n:Int) (rs:List Int) (left:Int):Prop where
 b2:2<=b
 jD:∀d∈rs,0<=d/\d<b
 l0:0<=left
 sum:n=le b rs+left * b ^ rs.length
 pos:rs=[]\/0<left
theorem Lh.start {b n:Int} (B:2<=b) (z:0<=n):Lh b n [] n:=⟨B,λd hd=>absurd hd xt,z,by simp [le],.inl rfl⟩
theorem Lh.turn {b n z:Int} {rs:List Int} (g:Lh b n rs z) (h:b<=z):Lh b n (rs++[z % b]) (z / b) where
 b2:=g.b2
 jD:=λd hd=>by
  have B:=g.b2
  rcases zT.mp hd with hd|hd
  ·exact g.jD d hd
  ·rw [zD] at hd
   subst hd
   exact ⟨yR _ (by omega),yC _ (by omega)⟩
 l0:=Int.ediv_nonneg g.l0 (by have:=g.b2;omega)
 sum:=by
  have h1:=g.sum
  have h2:=Int.mul_ediv_add_emod z b
  rw [u_,zt,yj,zL,h1]
  generalize b ^ rs.length=p at *
  have e:z * p=(z % b) * p+(z / b) * (p * b):=by
   have:z * p=(b * (z / b)+z % b) * p:=by rw [h2]
   rw [this,Int.add_mul,yA p b,<-xF,yA (z / b) b]
   omega
  omega
 pos:=.inr (by
  have B:=g.b2
  have:=xc (show 0<b by omega) h
  rw [Int.ediv_self (by omega)] at this
  omega)
theorem Lh.len {b n B:Int} {rs:List Int} (g:Lh b n rs B) (I:n<2 ^ 4000):rs.length<4000:=by
 rcases g.pos with z|z
 ·rw [z];decide
 have h1:=g.sum
 have D:=g.b2
 have h2:=Lg (by omega) g.jD
 have p:=au (show 0<b by omega) rs.length
 have O:1 * b ^ rs.length<=B * b ^ rs.length:=zB (by omega) (by omega)
 have J:=gG D rs.length
 by_cases z:rs.length<4000
 ·exact z
 ·have:=oO (show 4000<=rs.length by omega)
  generalize (2:Int) ^ 4000=q at *
  omega
theorem Lh.done {b n B:Int} {rs:List Int} (g:Lh b n rs B) (h:B<b):fP b n (rs++[B]).reverse where
 jD:=λd hd=>by
  rcases zT.mp (zY.mp hd) with hd|hd
  ·exact g.jD d hd
  ·rw [zD] at hd;subst hd;exact ⟨g.l0,h⟩
 val:=by rw [val_rev,u_];exact g.sum.symm
 ne:=by simp
 hd:=by
  rcases g.pos with z|z
  ·exact .inl (by rw [z];rfl)
  ·refine .inr ?_
   rw [yJ]
   simp
   omega
theorem val_mod {b:Int} {xs:List Int} {d:Int} (h:0<=d/\d<b):val b (xs++[d]) % b=d/\val b (xs++[d]) / b=val b xs:=by
 rw [gF]
 have n:0<b:=by omega
 constructor
 ·rw [xh,Int.add_mul_emod_self_right,Int.emod_eq_of_lt h.1 h.2]
 ·rw [xh,Int.add_mul_ediv_right _ _ (by omega),Int.ediv_eq_zero_of_lt h.1 h.2,xC]
theorem jU {b:Int} (n:0<=b) {xs:List Int} (h:∀d∈xs,0<=d/\d<b):0<=val b xs:=by
 have:=Lg n (rs:=xs.reverse) λd hd=>h d (zY.mp hd)
 rw [<-val_rev,List.reverse_reverse] at this
 exact this
theorem fP.uniq {b:Int} (hb:2<=b):∀(k:Nat) {n:Int} {xs ys:List Int},xs.length=k->fP b n xs->fP b n ys->xs=ys:=by
 intro k
 induction k with
 | zero=>intro n xs ys hk B _;exact absurd (yI.mp hk) B.ne
 | succ k ih=>
  intro n xs ys hk B D
  have ex:=yP B.ne
  have ey:=yP D.ne
  generalize xs.dropLast=us at ex
  generalize ys.dropLast=vs at ey
  generalize xs.getLast B.ne=p at ex
  generalize ys.getLast D.ne=q at ey
  subst ex ey
  have hp:=B.jD p (by simp)
  have hq:=D.jD q (by simp)
  have Y:=val_mod (xs:=us) hp
  have U:=val_mod (xs:=vs) hq
  have e1:=B.val
  have e2:=D.val
  rw [e1] at Y
  rw [e2] at U
  have epq:p=q:=Y.1.symm.trans U.1
  have ev:M.val b us=M.val b vs:=Y.2.symm.trans U.2
  subst epq
  have O:∀(ws:List Int),(ws++[p]).length=1\/(ws++[p]).head?≠some 0->(∀d∈ws,0<=d/\d<b)->ws≠[]->0<M.val b ws:=by
   intro ws h hr Z
   match ws,Z with
   | w::r,_=>
    have h0:w≠0:=by
     rcases h with z|z
     ·simp at z
     ·simpa using z
    have hw':=hr w zn
    rw [dN]
    have p1:=au (show 0<b by omega) r.length
    have p2:=jU (show 0<=b by omega) (xs:=r) λd hd=>hr d (zr _ hd)
    have p3:1 * b ^ r.length<=w * b ^ r.length:=zB (by omega) (by omega)
    omega
  have ru:∀d∈us,0<=d/\d<b:=λd hd=>B.jD d (yQ _ hd)
  have rv:∀d∈vs,0<=d/\d<b:=λd hd=>D.jD d (yQ _ hd)
  by_cases J:us=[]
  ·by_cases I:vs=[]
   ·rw [J,I]
   ·have:=O vs D.hd rv I
    rw [J] at ev
    have z:M.val b []=0:=rfl
    omega
  ·by_cases I:vs=[]
   ·have:=O us B.hd ru J
    rw [I] at ev
    have z:M.val b []=0:=rfl
    omega
   ·have lu:us.length=k:=by rw [zt,yj] at hk;omega
    have hd':∀(ws:List Int),ws≠[]->((ws++[p]).length=1\/(ws++[p]).head?≠some 0)->ws.length=1\/ws.head?≠some 0:=by
     intro ws Z h
     match ws,Z with
     | w::r,_=>
      refine .inr ?_
      rcases h with z|z
      ·simp at z
      ·simpa using z
    rw [ih lu ⟨ru,rfl,J,hd' us J B.hd⟩ ⟨rv,ev.symm,I,hd' vs I D.hd⟩]
theorem fP.pos {b n:Int} {ds:List Int} (d:fP b n ds) (B:0<n):ds.head?≠some 0:=by
 rcases d.hd with z|z
 ·match ds,z,d with
  | [x],_,d=>
   have h:(0:Int) * b+x=n:=d.val
   intro e
   have:x=0:=by simpa using e
   omega
 ·exact z
def X3 (b:Nat):Nat->Nat->List Int
 | 0,n=>[(n:Int)]
 | f+1,n=>if n<b\/b<2 then [(n:Int)] else X3 b f (n / b)++[((n % b:Nat):Int)]
theorem Wv {b:Nat} (B:2<=b):∀{f n:Nat},n<=f->X3 b f n=X3 b n n:=by
 have:∀f g n:Nat,n<=f->n<=g->X3 b f n=X3 b g n:=by
  intro f
  induction f with
  | zero=>
   intro g n h _
   cases g with
   | zero=>rfl
   | succ g=>exact (zo (by omega)).symm
  | succ f ih=>
   intro g n h k
   cases g with
   | zero=>exact zo (by omega)
   | succ g=>
    have:=Nat.div_le_self n b
    by_cases h:n<b\/b<2
    ·exact (zo h).trans (zo h).symm
    ·have z:n / b<n:=Nat.div_lt_self (by omega) (by omega)
     exact (zi h).trans ((zV (·++_) (ih g (n / b) (by omega) (by omega))).trans (zi h).symm)
 exact λ{f n} h=>this f n n h (zC _)
def X4 (b n:Nat):List Int:=X3 b n n
theorem vf {b n:Nat} (h:n<b\/b<2):X4 b n=[(n:Int)]:=by
 cases n with
 | zero=>rfl
 | succ n=>exact zo h
theorem Ww {b n:Nat} (h:¬(n<b\/b<2)):X4 b n=X4 b (n / b)++[((n % b:Nat):Int)]:=by
 cases n with
 | zero=>exact absurd (by omega) h
 | succ n=>
  have z:(n+1) / b<n+1:=Nat.div_lt_self (by omega) (by omega)
  exact (zi h).trans (zV (·++_) (Wv (by omega) (show (n+1) / b<=n by omega)))
def fg (b n:Int):List Int:=X4 b.toNat n.toNat
theorem Li (b:Nat) (I:2<=b):∀n:Nat,fP (b:Int) (n:Int) (X4 b n):=by
 intro n
 induction n using Nat.strongRecOn with
 | ind n ih=>
  by_cases h:n<b\/b<2
  ·rw [vf h]
   refine ⟨λd hd=>?_,?_,by simp,.inl rfl⟩
   ·rw [zD] at hd;subst hd;omega
   ·show (0:Int) * b+n=n;omega
  ·rw [Ww h]
   have B:n / b<n:=Nat.div_lt_self (by omega) (by omega)
   have d:=ih (n / b) B
   have hpos:0<n / b:=Nat.div_pos (by omega) (by omega)
   refine ⟨λx z=>?_,?_,by simp,.inr ?_⟩
   ·rcases zT.mp z with z|z
    ·exact d.jD x z
    ·rw [zD] at z;subst z
     have:=Nat.mod_lt n (show 0<b by omega)
     omega
   ·rw [gF,d.val]
    have:=Nat.div_add_mod n b
    have e:((n / b:Nat):Int) * (b:Int)+((n % b:Nat):Int)=((n / b * b+n % b:Nat):Int):=by push_cast;rfl
    rw [e]
    congr 1
    rw [Nat.mul_comm];exact this
   ·have h1:=d.pos (by omega)
    match D:X4 b (n / b),d.ne,h1 with
    | x::r,_,h1=>simpa using h1
theorem cT {b n:Int} (B:2<=b) (z:0<=n):fP b n (fg b n):=by
 have h:=Li b.toNat (by omega) n.toNat
 have e1:((b.toNat:Nat):Int)=b:=by omega
 have e2:((n.toNat:Nat):Int)=n:=by omega
 rw [e1,e2] at h
 exact h
theorem fP.fg {b n:Int} {ds:List Int} (z:2<=b) (B:0<=n) (d:fP b n ds):ds=fg b n:=fP.uniq z _ rfl d (cT z B)
theorem fP.nn {b n:Int} {ds:List Int} (z:2<=b) (d:fP b n ds):0<=n:=by
 have:=jU (show 0<=b by omega) d.jD
 rw [d.val] at this;exact this
theorem vg {b:Int} (z:1<=b):∀{ds:List Int},(∀d∈ds,0<=d/\d<b)->val b ds<b ^ ds.length
 | [],_=>by show (0:Int)<b ^ 0;simp
 | d::r,h=>by
  have h1:=h d zn
  have B:=vg z (ds:=r) λx n=>h x (zr _ n)
  rw [dN,zJ,zL]
  have p:=au (show 0<b by omega) r.length
  have:(d+1) * b ^ r.length<=b * b ^ r.length:=zB (by omega) (by omega)
  rw [Int.add_mul,xf,yA b] at this
  omega
theorem fP.lt {b n:Int} {ds:List Int} (z:2<=b) (d:fP b n ds):n<b ^ ds.length:=by rw [<-d.val];exact vg (by omega) d.jD
theorem fP.ge {b n:Int} {ds:List Int} (O:2<=b) (d:fP b n ds) (B:0<n):b ^ (ds.length - 1)<=n:=by
 have h:=d.pos B
 have v:=d.val
 match ds,d.ne,h,d.jD,v with
 | x::r,_,h,jD,v=>
  have I:=jD x zn
  have D:x≠0:=by simpa using h
  have J:=jU (show 0<=b by omega) (xs:=r) λy z=>jD y (zr _ z)
  rw [dN] at v
  show b ^ (r.length+1 - 1)<=n
  rw [yh]
  have p:=au (show 0<b by omega) r.length
  have:1 * b ^ r.length<=x * b ^ r.length:=zB (by omega) (by omega)
  omega
def vh:Int:=2 ^ 4000
theorem mZ:vh=2 ^ 4000:=rfl
theorem Lj {b n:Int} (B:2<=b) (D:0<=n) (h:n<vh):(fg b n).length<=4001:=by
 have d:=cT B D
 rw [mZ] at h
 by_cases z:0<n
 ·have g:=d.ge B z
  by_cases q:(fg b n).length<=4001
  ·exact q
  ·have h1:=gG B ((fg b n).length - 1)
   have h2:=oO (show 4000<=(fg b n).length - 1 by omega)
   generalize (2:Int) ^ 4000=w at *
   omega
 ·have e:n=0:=by omega
  subst e
  have:fg b 0=[0]:=by
   unfold fg
   rw [vf (by left;show (0:Int).toNat<b.toNat;omega)]
   rfl
  rw [this];decide
theorem Wx {b n:Int} (B:2<=b) (z:0<=n):0<(fg b n).length:=List.length_pos_iff.mpr (cT B z).ne
def bG (b n:Int):Bool:=decide (fg b n=(fg b n).reverse)
theorem m7 {b:Int} (n:2<=b):fg b 0=[0]:=by
 unfold fg
 rw [vf (by left;show (0:Int).toNat<b.toNat;omega)]
 rfl
theorem rE {b n:Int} (z:0<=n) (h:n<b):fg b n=[n]:=by
 unfold fg
 rw [vf (by left;omega)]
 congr 1;omega
theorem oR {b n:Int} (z:0<=n) (h:n<b):bG b n=true:=by
 unfold bG
 rw [rE z h];exact zW rfl
theorem CN {n:Int} (h:n<=10 ^ 40):n<vh:=by
 rw [mZ]
 have:(10:Int) ^ 40<2 ^ 4000:=by decide
 omega
theorem vm (b:Int) (xs ys:List Int):val b (xs++ys)=val b xs * b ^ ys.length+val b ys:=by
 show (xs++ys).foldl _ 0=_
 rw [List.foldl_append]
 exact j9 b ys _
theorem rF (b:Int):b ^ 1=b:=by rw [zL,xB,xf]
def ln (b n:Int):Nat:=(fg b n).length
theorem bz {b:Int} (z:1<=b) {m n:Nat} (h:m<=n):b ^ m<=b ^ n:=by
 obtain ⟨k,rfl⟩:=Nat.exists_eq_add_of_le h
 rw [xz]
 have p:=au (show 0<b by omega) m
 have q:=au (show 0<b by omega) k
 have:b ^ m * 1<=b ^ m * b ^ k:=yo (by omega) (by omega)
 omega
theorem Wy {b:Int} (z:2<=b) {m n:Nat} (h:m<n):b ^ m<b ^ n:=by
 have h1:=bz (b:=b) (by omega) (show m+1<=n by omega)
 rw [zL] at h1
 have p:=au (show 0<b by omega) m
 have:b ^ m * 2<=b ^ m * b:=yo z (by omega)
 omega
theorem fD {b n:Int} (z:2<=b) (B:1<=n):b ^ (ln b n - 1)<=n:=(cT z (by omega)).ge z (by omega)
theorem gH {b n:Int} (z:2<=b) (B:0<=n):n<b ^ (ln b n):=(cT z B).lt z
theorem dF {b n:Int} (B:2<=b) (z:0<=n):1<=ln b n:=Wx B z
theorem Lk {b n:Int} (z:2<=b) {L:Nat} (hL:1<=L) (D:b ^ (L - 1)<=n) (B:n<b ^ L):ln b n=L:=by
 have p:=au (show 0<b by omega) (L - 1)
 have O:=fD z (show 1<=n by omega)
 have J:=gH z (show 0<=n by omega)
 have I:=dF z (show 0<=n by omega)
 by_cases h:ln b n<L
 ·have:=bz (b:=b) (by omega) (show ln b n<=L - 1 by omega)
  omega
 ·by_cases h':L<ln b n
  ·have:=bz (b:=b) (by omega) (show L<=ln b n - 1 by omega)
   omega
  ·omega
theorem j_ {b m n:Int} (z:2<=b) (D:0<=m) (h:m<=n):ln b m<=ln b n:=by
 by_cases B:m=0
 ·subst B
  have:ln b 0=1:=by unfold ln;rw [m7 z];rfl
  have:=dF z (show 0<=n by omega)
  omega
 have J:=fD z (show 1<=m by omega)
 have I:=gH z (show 0<=n by omega)
 by_cases q:ln b m<=ln b n
 ·exact q
 ·have:=bz (b:=b) (by omega) (show ln b n<=ln b m - 1 by omega)
  omega
def hf (L:Nat):Nat:=(L+1) / 2
theorem oU {b n:Int} {ds:List Int} (U:2<=b) (d:fP b n ds) (j:Nat) (O:j<=ds.length):n / b ^ j=val b (ds.take (ds.length - j))/\n=val b (ds.take (ds.length - j)) * b ^ j+val b (ds.drop (ds.length - j)):=by
 have e:ds=ds.take (ds.length - j)++ds.drop (ds.length - j):=(List.take_append_drop _ _).symm
 have z:=d.val
 rw [e,vm] at z
 have D:(ds.drop (ds.length - j)).length=j:=by rw [yM];omega
 rw [D] at z
 have r:∀x∈ds.drop (ds.length - j),0<=x/\x<b:=λx J=>d.jD x (List.mem_of_mem_drop J)
 have I:=jU (show 0<=b by omega) r
 have B:=vg (show 1<=b by omega) r
 rw [D] at B
 have p:=au (show 0<b by omega) j
 refine ⟨?_,z.symm⟩
 rw [<-z,xh,Int.add_mul_ediv_right _ _ (by omega),Int.ediv_eq_zero_of_lt I B,xC]
theorem uc {b n:Int} {ds:List Int} (O:2<=b) (d:fP b n ds) (J:1<=n) {m:Nat} (I:1<=m) (D:m<=ds.length):fP b (val b (ds.take m)) (ds.take m):=by
 have h:=d.pos (by omega)
 refine ⟨λx B=>d.jD x (xn B),rfl,?_,.inr ?_⟩
 ·intro z
  have:=zV List.length z
  rw [yG,List.length_nil] at this
  omega
 ·match ds,m,I,D,h with
  | x::r,m+1,_,_,h=>simpa using h
def fG (b f:Int) (L:Nat):Int:=val b (fg b f++((fg b f).take (L / 2)).reverse)
theorem Qv {α:Type} {xs:List α} {L:Nat} (n:xs.length=hf L):(xs++(xs.take (L / 2)).reverse).reverse=xs++(xs.take (L / 2)).reverse:=by
 unfold hf at n
 rw [yJ,List.reverse_reverse]
 by_cases D:L % 2=0
 ·have e:L / 2=xs.length:=by omega
  rw [e,List.take_length]
 ·have e:L / 2=xs.length - 1:=by omega
  rw [e]
  have B:xs≠[]:=by intro z;rw [z] at n;simp at n;omega
  obtain ⟨ys,y,rfl⟩:∃ys y,xs=ys++[y]:=⟨xs.dropLast,xs.getLast B,(yP B).symm⟩
  have e2:(ys++[y]).length - 1=ys.length:=by simp
  rw [e2,List.take_left' rfl,yJ]
  simp
structure Fr (b f:Int) (L:Nat):Prop where
 b2:2<=b
 L1:1<=L
 lo:b ^ (hf L - 1)<=f
 hi:f<b ^ hf L
theorem rG {L:Nat} (h:1<=L):1<=hf L:=by unfold hf;omega
theorem Fr.pos {b f:Int} {L:Nat} (h:Fr b f L):1<=f:=by have:=au (show 0<b by have:=h.b2;omega) (hf L - 1);have:=h.lo;omega
theorem Fr.len {b f:Int} {L:Nat} (h:Fr b f L):(fg b f).length=hf L:=Lk h.b2 (rG h.L1) h.lo h.hi
theorem Fr.ZX {b f:Int} {L:Nat} (h:Fr b f L):fP b (fG b f L) (fg b f++((fg b f).take (L / 2)).reverse):=by
 have d:=cT h.b2 (show 0<=f by have:=h.pos;omega)
 have p:=d.pos (by have:=h.pos;omega)
 refine ⟨λx n=>?_,rfl,?_,.inr ?_⟩
 ·rcases zT.mp n with n|n
  ·exact d.jD x n
  ·exact d.jD x (xn (zY.mp n))
 ·intro z;exact d.ne (List.append_eq_nil_iff.mp z).1
 ·match fg b f,d.ne,p with
  | x::r,_,p=>simpa using p
theorem Fr.vo {b f:Int} {L:Nat} (h:Fr b f L):0<=fG b f L:=h.ZX.nn h.b2
theorem Fr.fgp {b f:Int} {L:Nat} (h:Fr b f L):fg b (fG b f L)=fg b f++((fg b f).take (L / 2)).reverse:=(h.ZX.fg h.b2 h.vo).symm
theorem Fr.bG {b f:Int} {L:Nat} (h:Fr b f L):bG b (fG b f L)=true:=by
 unfold M.bG
 rw [h.fgp]
 exact zW (Qv h.len).symm
theorem Fr.ln {b f:Int} {L:Nat} (h:Fr b f L):ln b (fG b f L)=L:=by
 unfold M.ln
 have l:=h.len
 have:=h.L1
 rw [h.fgp,zt,yT,yG,l]
 unfold hf;omega
theorem Fr.split {b f:Int} {L:Nat} (h:Fr b f L):f * b ^ (L / 2)<=fG b f L/\fG b f L<(f+1) * b ^ (L / 2):=by
 have d:=cT h.b2 (show 0<=f by have:=h.pos;omega)
 have I:=h.b2
 have e:fG b f L=val b (fg b f) * b ^ (((fg b f).take (L / 2)).reverse).length+val b (((fg b f).take (L / 2)).reverse):=vm _ _ _
 have n:(((fg b f).take (L / 2)).reverse).length=L / 2:=by rw [yT,yG,h.len];unfold hf;omega
 rw [n,d.val] at e
 have r:∀x∈((fg b f).take (L / 2)).reverse,0<=x/\x<b:=λx B=>d.jD x (xn (zY.mp B))
 have D:=jU (show 0<=b by omega) r
 have z:=vg (show 1<=b by omega) r
 rw [n] at z
 rw [Int.add_mul,xf]
 omega
theorem Fr.front {b f:Int} {L:Nat} (h:Fr b f L):fG b f L / b ^ (L / 2)=f:=by
 obtain ⟨h1,h2⟩:=h.split
 have p:=au (show 0<b by have:=h.b2;omega) (L / 2)
 have z:f<=fG b f L / b ^ (L / 2):=Int.le_ediv_of_mul_le p h1
 have n:fG b f L / b ^ (L / 2)<f+1:=Int.ediv_lt_of_lt_mul p h2
 omega
theorem Fr.mono {b f n:Int} {L:Nat} (h:Fr b f L) (h':Fr b n L) (z:f<n):fG b f L<fG b n L:=by
 have h1:=h.split.2
 have h2:=h'.split.1
 have p:=au (show 0<b by have:=h.b2;omega) (L / 2)
 have:(f+1) * b ^ (L / 2)<=n * b ^ (L / 2):=zB (by omega) (by omega)
 omega
theorem bH {b n:Int} (B:2<=b) (O:1<=n):Fr b (n / b ^ (ln b n / 2)) (ln b n):=by
 have d:=cT B (show 0<=n by omega)
 have D:=dF B (show 0<=n by omega)
 obtain ⟨e,_⟩:=oU B d (ln b n / 2) (by unfold ln;omega)
 have Y:(fg b n).length - ln b n / 2=hf (ln b n):=by unfold hf ln;unfold ln at D;omega
 rw [Y] at e
 have U:=uc B d O (rG D) (by unfold hf ln;unfold ln at D;omega)
 have J:((fg b n).take (hf (ln b n))).length=hf (ln b n):=by rw [yG];unfold hf ln;unfold ln at D;omega
 rw [e]
 refine ⟨B,D,?_,?_⟩
 ·have hpos:0<val b ((fg b n).take (hf (ln b n))):=by
   rw [<-e]
   have g:=fD B O
   have p:=au (show 0<b by omega) (ln b n / 2)
   by_cases z:0<n / b ^ (ln b n / 2)
   ·exact z
   ·have z0:=Int.ediv_nonneg (show 0<=n by omega) (show 0<=b ^ (ln b n / 2) by omega)
    have Z:n / b ^ (ln b n / 2)=0:=by omega
    have I:=Int.lt_mul_of_ediv_lt p (show n / b ^ (ln b n / 2)<1 by omega)
    rw [xf] at I
    by_cases q:ln b n=1
    ·rw [q] at I;simp at I;omega
    ·have:=bz (b:=b) (by omega) (show ln b n / 2<=ln b n - 1 by omega)
     omega
  have:=U.ge B hpos
  rw [J] at this;exact this
 ·have:=U.lt B
  rw [J] at this;exact this
theorem eZ {b n:Int} (z:2<=b) (D:1<=n) (h:bG b n=true):fG b (n / b ^ (ln b n / 2)) (ln b n)=n:=by
 have d:=cT z (show 0<=n by omega)
 have F:=bH z D
 obtain ⟨e,_⟩:=oU z d (ln b n / 2) (by unfold ln;omega)
 have B:=dF z (show 0<=n by omega)
 have U:(fg b n).length - ln b n / 2=hf (ln b n):=by unfold hf ln;unfold ln at B;omega
 rw [U] at e
 have I:=uc z d D (rG B) (by unfold hf ln;unfold ln at B;omega)
 have Z:fg b (n / b ^ (ln b n / 2))=(fg b n).take (hf (ln b n)):=by
  rw [e];exact (I.fg z (I.nn z)).symm
 have J:fg b n=(fg b n).reverse:=xm h
 unfold fG
 rw [Z,List.take_take]
 have O:min (ln b n / 2) (hf (ln b n))=ln b n / 2:=by unfold hf;omega
 rw [O]
 have Y:(fg b n).drop (hf (ln b n))=((fg b n).take (ln b n / 2)).reverse:=by
  have:(fg b n).drop (hf (ln b n))=((fg b n).reverse).drop (hf (ln b n)):=by rw [<-J]
  rw [this,List.drop_reverse]
  congr 2
  unfold hf ln;unfold ln at B;omega
 rw [<-Y,List.take_append_drop]
 exact d.val
def Mp (b m:Int):Prop:=0<=m/\bG b m=true
structure AM (b n m:Int):Prop where
 mp:Mp b m
 le:m<=n
 top:∀k,Mp b k->k<=n->k<=m
structure AL (b n m:Int):Prop where
 mp:Mp b m
 le:n<=m
 bot:∀k,Mp b k->n<=k->m<=k
structure Nx (b n m:Int):Prop where
 mp:Mp b m
 lt:n<m
 bot:∀k,Mp b k->n<k->m<=k
theorem AM.uniq {b n m m':Int} (h:AM b n m) (h':AM b n m'):m=m':=by
 have:=h.top m' h'.mp h'.le
 have:=h'.top m h.mp h.le
 omega
theorem Nx.uniq {b n m m':Int} (h:Nx b n m) (h':Nx b n m'):m=m':=by
 have:=h.bot m' h'.mp h'.lt
 have:=h'.bot m h.mp h.lt
 omega
theorem dO {b m:Int} (h0:0<=m) (h:m<b):Mp b m:=⟨h0,oR h0 h⟩
theorem ud {b:Int} (B:2<=b) {L:Nat} (hL:1<=L):Fr b (b ^ hf L - 1) L/\fG b (b ^ hf L - 1) L=b ^ L - 1:=by
 have h1:=rG hL
 have F:Fr b (b ^ hf L - 1) L:=⟨B,hL,by
  have:=Wy B (show hf L - 1<hf L by omega)
  omega,by omega⟩
 refine ⟨F,?_⟩
 -- its En are all the greatest
 have rep:∀k:Nat,val b (List.replicate k (b - 1))=b ^ k - 1:=by
  intro k
  induction k with
  | zero=>simp [val]
  | succ k ih=>
   rw [zU,dN,zF,ih,zL,Int.sub_mul,xf,yA b]
   omega
 have D:fP b (b ^ hf L - 1) (List.replicate (hf L) (b - 1)):=⟨λd hd=>by have:=List.eq_of_mem_replicate hd;omega,rep _,by
  obtain ⟨k,n⟩:∃k,hf L=k+1:=⟨hf L - 1,by omega⟩
  rw [n,zU];simp,.inr (by
  obtain ⟨k,n⟩:∃k,hf L=k+1:=⟨hf L - 1,by omega⟩
  rw [n,zU]
  intro z
  have:b - 1=0:=by simpa using z
  omega)⟩
 have e:=(D.fg B (by have:=F.pos;omega))
 unfold fG
 rw [<-e,List.take_replicate,List.reverse_replicate,List.replicate_append_replicate,rep]
 have:hf L+min (L / 2) (hf L)=L:=by unfold hf;omega
 rw [this]
theorem iU {b:Int} (n:2<=b) (L:Nat):Mp b (b ^ L - 1):=by
 by_cases h:1<=L
 ·obtain ⟨F,e⟩:=ud n h
  rw [<-e];exact ⟨F.vo,F.bG⟩
 ·have:L=0:=by omega
  subst this
  exact dO (by simp) (by simp;omega)
theorem Fr.mp {b f:Int} {L:Nat} (h:Fr b f L):Mp b (fG b f L):=⟨h.vo,h.bG⟩
theorem Ln {b n:Int} (z:2<=b) (O:1<=n) (h:fG b (n / b ^ (ln b n / 2)) (ln b n)<=n):AM b n (fG b (n / b ^ (ln b n / 2)) (ln b n)):=by
 have F:=bH z O
 refine ⟨F.mp,h,λk D B=>?_⟩
 by_cases Y:k<=0
 ·have:=F.vo;omega
 have ll:=j_ z D.1 B
 by_cases hL:ln b k=ln b n
 ·have J:=bH z (show 1<=k by omega)
  have I:=eZ z (show 1<=k by omega) D.2
  rw [hL] at J I
  have U:k / b ^ (ln b n / 2)<=n / b ^ (ln b n / 2):=xc (au (by omega) _) B
  by_cases Z:k / b ^ (ln b n / 2)=n / b ^ (ln b n / 2)
  ·rw [Z] at I;omega
  ·have:=J.mono F (by omega)
   omega
 ·have g1:=gH z D.1
  have g2:=fD z (show 1<=fG b (n / b ^ (ln b n / 2)) (ln b n) by
   have:=F.split.1
   have:=F.pos
   have p:=au (show 0<b by omega) (ln b n / 2)
   have:=zB (show 1<=n / b ^ (ln b n / 2) by omega) (show 0<=b ^ (ln b n / 2) by omega)
   omega)
  rw [F.ln] at g2
  have:=bz (b:=b) (by omega) (show ln b k<=ln b n - 1 by omega)
  omega
theorem Qw {b n:Int} (z:2<=b) (U:1<=n) (h:n<fG b (n / b ^ (ln b n / 2)) (ln b n)) (hf':n / b ^ (ln b n / 2)≠b ^ (hf (ln b n) - 1)):AM b n (fG b (n / b ^ (ln b n / 2) - 1) (ln b n)):=by
 have F:=bH z U
 have F1:Fr b (n / b ^ (ln b n / 2) - 1) (ln b n):=⟨z,F.L1,by have:=F.lo;omega,by have:=F.hi;omega⟩
 have p:=au (show 0<b by omega) (ln b n / 2)
 have h1:fG b (n / b ^ (ln b n / 2) - 1) (ln b n)<=n:=by
  have:=F1.split.2
  have e:n / b ^ (ln b n / 2) - 1+1=n / b ^ (ln b n / 2):=by omega
  rw [e] at this
  have:=Int.ediv_mul_le n (show b ^ (ln b n / 2)≠0 by omega)
  omega
 refine ⟨F1.mp,h1,λk D B=>?_⟩
 by_cases Z:k<=0
 ·have:=F1.vo;omega
 have ll:=j_ z D.1 B
 by_cases hL:ln b k=ln b n
 ·have O:=bH z (show 1<=k by omega)
  have J:=eZ z (show 1<=k by omega) D.2
  rw [hL] at O J
  have Y:k / b ^ (ln b n / 2)<=n / b ^ (ln b n / 2):=xc p B
  by_cases he:k / b ^ (ln b n / 2)=n / b ^ (ln b n / 2)
  ·rw [he] at J;omega
  ·by_cases I:k / b ^ (ln b n / 2)=n / b ^ (ln b n / 2) - 1
   ·rw [I] at J;omega
   ·have:=O.mono F1 (by omega)
    omega
 ·have g1:=gH z D.1
  have g2:=fD z (show 1<=fG b (n / b ^ (ln b n / 2) - 1) (ln b n) by
   have:=F1.split.1
   have:=F1.pos
   have:=zB (show 1<=n / b ^ (ln b n / 2) - 1 by omega) (show 0<=b ^ (ln b n / 2) by omega)
   omega)
  rw [F1.ln] at g2
  have:=bz (b:=b) (by omega) (show ln b k<=ln b n - 1 by omega)
  omega
theorem Lp {b n:Int} (z:2<=b) (I:1<=n) (h:n<fG b (n / b ^ (ln b n / 2)) (ln b n)) (Z:n / b ^ (ln b n / 2)=b ^ (hf (ln b n) - 1)):AM b n (b ^ (ln b n - 1) - 1):=by
 have F:=bH z I
 have p:=au (show 0<b by omega) (ln b n / 2)
 have g:=fD z I
 refine ⟨iU z _,by omega,λk D B=>?_⟩
 have q:=au (show 0<b by omega) (ln b n - 1)
 by_cases Y:k<=0
 ·omega
 have ll:=j_ z D.1 B
 by_cases hL:ln b k=ln b n
 ·have O:=bH z (show 1<=k by omega)
  have J:=eZ z (show 1<=k by omega) D.2
  rw [hL] at O J
  have U:k / b ^ (ln b n / 2)<=n / b ^ (ln b n / 2):=xc p B
  have:=O.lo
  have he:k / b ^ (ln b n / 2)=n / b ^ (ln b n / 2):=by omega
  rw [he] at J;omega
 ·have g1:=gH z D.1
  have:=bz (b:=b) (by omega) (show ln b k<=ln b n - 1 by omega)
  omega
theorem Lq {b n:Int} (z:2<=b) (I:1<=n) (h:n<=fG b (n / b ^ (ln b n / 2)) (ln b n)):AL b n (fG b (n / b ^ (ln b n / 2)) (ln b n)):=by
 have F:=bH z I
 have p:=au (show 0<b by omega) (ln b n / 2)
 refine ⟨F.mp,h,λk O B=>?_⟩
 have ll:=j_ z (show 0<=n by omega) B
 by_cases hL:ln b k=ln b n
 ·have D:=bH z (show 1<=k by omega)
  have Z:=eZ z (show 1<=k by omega) O.2
  rw [hL] at D Z
  have J:n / b ^ (ln b n / 2)<=k / b ^ (ln b n / 2):=xc p B
  by_cases U:n / b ^ (ln b n / 2)=k / b ^ (ln b n / 2)
  ·rw [U];omega
  ·have:=F.mono D (by omega)
   omega
 ·have Y:=gH z F.vo
  rw [F.ln] at Y
  have g2:=fD z (show 1<=k by omega)
  have:=bz (b:=b) (by omega) (show ln b n<=ln b k - 1 by omega)
  omega
theorem Qx {b n:Int} (B:2<=b) (U:1<=n) (h:fG b (n / b ^ (ln b n / 2)) (ln b n)<n):Fr b (n / b ^ (ln b n / 2)+1) (ln b n)/\AL b n (fG b (n / b ^ (ln b n / 2)+1) (ln b n)):=by
 have F:=bH B U
 have p:=au (show 0<b by omega) (ln b n / 2)
 have F1:Fr b (n / b ^ (ln b n / 2)+1) (ln b n):=⟨B,F.L1,by have:=F.lo;omega,by
  have hi:=F.hi
  by_cases z:n / b ^ (ln b n / 2)+1<b ^ hf (ln b n)
  ·exact z
  ·have e:n / b ^ (ln b n / 2)=b ^ hf (ln b n) - 1:=by omega
   have:=(ud B F.L1).2
   rw [<-e] at this
   have:=gH B (show 0<=n by omega)
   omega⟩
 refine ⟨F1,F1.mp,?_,λk Z D=>?_⟩
 ·have h1:=F1.split.1
  have:=Int.lt_ediv_add_one_mul_self n p
  omega
 have ll:=j_ B (show 0<=n by omega) D
 by_cases hL:ln b k=ln b n
 ·have O:=bH B (show 1<=k by omega)
  have J:=eZ B (show 1<=k by omega) Z.2
  rw [hL] at O J
  have Y:n / b ^ (ln b n / 2)<=k / b ^ (ln b n / 2):=xc p D
  by_cases he:n / b ^ (ln b n / 2)=k / b ^ (ln b n / 2)
  ·rw [<-he] at J;omega
  ·by_cases I:n / b ^ (ln b n / 2)+1=k / b ^ (ln b n / 2)
   ·rw [I];omega
   ·have:=F1.mono O (by omega)
    omega
 ·have g1:=gH B F1.vo
  rw [F1.ln] at g1
  have g2:=fD B (show 1<=k by omega)
  have:=bz (b:=b) (by omega) (show ln b n<=ln b k - 1 by omega)
  omega
theorem Ae {b m:Int} (n:2<=b) (D:Mp b m) (I:1<=m) (h:m≠b ^ ln b m - 1):Fr b (m / b ^ (ln b m / 2)+1) (ln b m)/\Nx b m (fG b (m / b ^ (ln b m / 2)+1) (ln b m)):=by
 have F:=bH n I
 have em:=eZ n I D.2
 have p:=au (show 0<b by omega) (ln b m / 2)
 have F1:Fr b (m / b ^ (ln b m / 2)+1) (ln b m):=⟨n,F.L1,by have:=F.lo;omega,by
  have hi:=F.hi
  by_cases z:m / b ^ (ln b m / 2)+1<b ^ hf (ln b m)
  ·exact z
  ·have e:m / b ^ (ln b m / 2)=b ^ hf (ln b m) - 1:=by omega
   have:=(ud n F.L1).2
   rw [<-e] at this
   omega⟩
 refine ⟨F1,F1.mp,by have:=F.mono F1 (by omega);omega,λk Z Y=>?_⟩
 have ll:=j_ n D.1 (show m<=k by omega)
 by_cases hL:ln b k=ln b m
 ·have O:=bH n (show 1<=k by omega)
  have J:=eZ n (show 1<=k by omega) Z.2
  rw [hL] at O J
  have U:m / b ^ (ln b m / 2)<=k / b ^ (ln b m / 2):=xc p (by omega)
  by_cases he:m / b ^ (ln b m / 2)=k / b ^ (ln b m / 2)
  ·rw [<-he] at J;omega
  ·by_cases B:m / b ^ (ln b m / 2)+1=k / b ^ (ln b m / 2)
   ·rw [B];omega
   ·have:=F1.mono O (by omega)
    omega
 ·have g1:=gH n F1.vo
  rw [F1.ln] at g1
  have g2:=fD n (show 1<=k by omega)
  have:=bz (b:=b) (by omega) (show ln b m<=ln b k - 1 by omega)
  omega
theorem kh (b:Int):∀k:Nat,val b (List.replicate k 0)=0
 | 0=>rfl
 | k+1=>by rw [zU,dN,kh b k,Int.zero_mul,xC]
theorem Lr {b:Int} (n:2<=b) (k:Nat):fP b (b ^ k) (1::List.replicate k 0):=
 ⟨λd hd=>by
  rcases zu.mp hd with rfl|hd
  ·omega
  ·have:=List.eq_of_mem_replicate hd;omega,by rw [dN,kh,zF];omega,by simp,.inr (by simp)⟩
theorem Qy {b:Int} (n:2<=b) {k:Nat} (B:1<=k):bG b (b ^ k)=false:=by
 unfold bG
 have e:=(Lr n k).fg n (by have:=au (show 0<b by omega) k;omega)
 rw [<-e]
 obtain ⟨j,rfl⟩:∃j,k=j+1:=⟨k - 1,by omega⟩
 refine zQ λz=>?_
 have:=zV List.head? z
 rw [List.replicate_succ',yu,yJ] at this
 simp at this
theorem GP {b:Int} (n:2<=b) (k:Nat):fP b (b ^ (k+1)+1) (1::(List.replicate k 0++[1])):=
 ⟨λd hd=>by
  rcases zu.mp hd with rfl|hd
  ·omega
  ·rcases zT.mp hd with hd|hd
   ·have:=List.eq_of_mem_replicate hd;omega
   ·rw [zD] at hd;omega,by
  rw [dN,gF,kh,zt,zF,yj];omega,by simp,.inr (by simp)⟩
theorem Qz {b:Int} (n:2<=b) (k:Nat):Mp b (b ^ (k+1)+1):=by
 have p:=au (show 0<b by omega) (k+1)
 refine ⟨by omega,?_⟩
 unfold bG
 rw [<-(GP n k).fg n (by omega)]
 refine zW ?_
 rw [yu,yJ,List.reverse_replicate]
 simp
theorem Af {b:Int} (n:2<=b) {L:Nat} (hL:1<=L):Nx b (b ^ L - 1) (b ^ L+1):=by
 obtain ⟨j,rfl⟩:∃j,L=j+1:=⟨L - 1,by omega⟩
 refine ⟨Qz n j,by omega,λk z h=>?_⟩
 by_cases e:k=b ^ (j+1)
 ·have:=z.2
  rw [e,Qy n (by omega)] at this;cases this
 ·omega
theorem Eo {b:Int} (n:2<=b):Nx b 0 1:=⟨dO (by decide) (by omega),by decide,λk _ h=>by omega⟩
theorem Ag {b n:Int} (B:2<=b) (z:0<=n) (h:n<vh):ln b n<=4001:=Lj B z h
theorem pw_big {b n:Int} (B:2<=b) (I:0<=n) (h:n<vh) {k:Nat} (D:k<=ln b n - 1):b ^ k<2 ^ 4000:=by
 by_cases z:1<=n
 ·have:=fD B z
  have:=bz (b:=b) (by omega) D
  rw [<-mZ];omega
 ·have e:n=0:=by omega
  subst e
  have:ln b 0=1:=by unfold ln;rw [m7 B];rfl
  have:k=0:=by omega
  subst this
  have:(1:Int)<2 ^ 4000:=by decide
  simpa using this
def ue (b:Int) (L:Nat):Int:=b ^ hf L - 1+b ^ (L / 2) - 1
def pl (b m:Int):Int:=if m=0 then 0 else ue b (ln b m - 1)+(m / b ^ (ln b m / 2) - b ^ (hf (ln b m) - 1))+1
def oV (b:Int):Nat->Int
 | 0=>0
 | n+1=>oV b n+(if bG b ((n:Int)+1)=true then 1 else 0)
def cnt (b n:Int):Int:=oV b n.toNat
theorem rH {b:Int} {L:Nat} (hL:1<=L):ue b L=ue b (L - 1)+b ^ hf L - b ^ (hf L - 1):=by
 unfold ue
 have e1:hf (L - 1)=L / 2:=by unfold hf;omega
 have e2:(L - 1) / 2=hf L - 1:=by unfold hf;omega
 rw [e1,e2];omega
theorem Ep {b m z:Int} (n:2<=b) (D:Mp b m) (h:Nx b m z):pl b z=pl b m+1:=by
 by_cases O:m=0
 ·subst O
  have e:=h.uniq (Eo n)
  subst e
  have Z:ln b 1=1:=by unfold ln;rw [rE (by decide) (by omega)];rfl
  unfold pl
  rw [zi (by decide),zo rfl,Z]
  simp [ue,hf]
 have I:1<=m:=by have:=D.1;omega
 have F:=bH n I
 have em:=eZ n I D.2
 by_cases U:m=b ^ ln b m - 1
 ·-- greatest En alone
  have l0:=dF n D.1
  have nx:=Af n l0
  rw [<-U] at nx
  have e:=h.uniq nx
  have p:=au (show 0<b by omega) (ln b m)
  have q2:=bz (b:=b) (by omega) (show 1<=ln b m by omega)
  rw [rF] at q2
  have J:ln b z=ln b m+1:=Lk n (by omega) (by rw [yh,e];omega) (by
   rw [e,zL]
   have:b ^ ln b m * 2<=b ^ ln b m * b:=yo n (by omega)
   omega)
  have B:z≠0:=by rw [e];omega
  have fr:z / b ^ ((ln b m+1) / 2)=b ^ (hf (ln b m+1) - 1):=by
   have ep:b ^ ln b m=b ^ (hf (ln b m+1) - 1) * b ^ ((ln b m+1) / 2):=by
    rw [<-xz];congr 1;unfold hf;omega
   have p2:=au (show 0<b by omega) ((ln b m+1) / 2)
   have Y:=bz (b:=b) (by omega) (show 1<=(ln b m+1) / 2 by omega)
   rw [rF] at Y
   rw [e,ep,xh,Int.add_mul_ediv_right _ _ (by omega),Int.ediv_eq_zero_of_lt (by decide) (by omega),xC]
  have f0:m / b ^ (ln b m / 2)=b ^ hf (ln b m) - 1:=by
   have N:=ud n l0
   have:fG b (b ^ hf (ln b m) - 1) (ln b m)=m:=by rw [N.2];exact U.symm
   have g:=N.1.front
   rw [this] at g;exact g
  unfold pl
  rw [zi B,zi O,J,yh,fr,f0,rH l0]
  omega
 ·obtain ⟨F1,nx⟩:=Ae n D I U
  have e:=h.uniq nx
  have J:ln b z=ln b m:=by rw [e];exact F1.ln
  have fr:z / b ^ (ln b m / 2)=m / b ^ (ln b m / 2)+1:=by rw [e];exact F1.front
  have B:z≠0:=by have:=h.lt;omega
  unfold pl
  rw [zi B,zi O,J,fr]
  omega
theorem AM.step {b:Int} {n:Nat} {m:Int} (h:AM b n m) (B:bG b ((n:Int)+1)=false):AM b ((n:Int)+1) m:=⟨h.mp,by have:=h.le;omega,λk z D=>by
 by_cases e:k=(n:Int)+1
 ·rw [e] at z;rw [z.2] at B;cases B
 ·exact h.top k z (by omega)⟩
theorem AM.self {b m:Int} (h:Mp b m):AM b m m:=⟨h,yn _,λ_ _ h=>h⟩
theorem uf {b:Int} (B:2<=b):∀n:Nat,∃m,AM b n m
 | 0=>⟨0,dO (by decide) (by omega),by simp,λk _ h=>h⟩
 | n+1=>by
  cases z:bG b ((n:Int)+1) with
  | true=>exact ⟨(n:Int)+1,AM.self ⟨by omega,z⟩⟩
  | false=>
   obtain ⟨m,h⟩:=uf B n
   exact ⟨m,h.step z⟩
theorem Er {b:Int} (B:2<=b):∀(n:Nat) (m:Int),AM b n m->pl b m=oV b n
 | 0,m,h=>by
  have:m=0:=by have:=h.le;have:=h.mp.1;omega
  subst this
  unfold pl;rw [zo rfl];rfl
 | n+1,m,h=>by
  have h':AM b ((n:Int)+1) m:=h
  show pl b m=oV b n+_
  obtain ⟨m0,h0⟩:=uf B n
  have D:=Er B n m0 h0
  cases I:bG b ((n:Int)+1) with
  | true=>
   have e:m=(n:Int)+1:=h'.uniq (AM.self ⟨by omega,I⟩)
   have nx:Nx b m0 m:=⟨h.mp,by have:=h0.le;omega,λk O J=>by
    by_cases z:k<=n
    ·have:=h0.top k O z;omega
    ·omega⟩
   rw [Ep B h0.mp nx,D];simp
  | false=>
   have e:m=m0:=h'.uniq (h0.step I)
   rw [e,D];simp
theorem lV {b n m:Int} (z:2<=b) (B:0<=n) (h:AM b n m):pl b m=cnt b n:=by
 unfold cnt
 refine Er z _ _ ?_
 have:((n.toNat:Nat):Int)=n:=by omega
 rw [this];exact h
theorem Fr.pl {b f:Int} {L:Nat} (F:Fr b f L):pl b (fG b f L)=ue b (L - 1)+(f - b ^ (hf L - 1))+1:=by
 have h1:=F.split.1
 have p:=au (show 0<b by have:=F.b2;omega) (L / 2)
 have:=F.pos
 have:=zB (show 1<=f by omega) (show 0<=b ^ (L / 2) by omega)
 unfold M.pl
 rw [zi (by omega),F.ln,F.front]
def Mid:Int:=2 ^ 1100
theorem WD {m:Int} (h:m<=10 ^ 60):m<Mid:=by
 have:(10:Int) ^ 60<Mid:=by unfold Mid;decide
 omega
theorem Ls {b m:Int} (n:2<=b) (B:Mp b m) (z:1<=m):pl b m<=ue b (ln b m):=by
 have F:=bH n z
 have e:=F.pl
 rw [eZ n z B.2] at e
 rw [e,rH F.L1]
 have:=F.hi
 omega
theorem Sd {x y:Int} (B:0<=x) (n:0<=y) (h:x * x<=y * y):x<=y:=by
 by_cases z:x<=y
 ·exact z
 ·have h1:y * x<x * x:=Int.mul_lt_mul_of_pos_right (by omega) (by omega)
  have h2:y * y<=y * x:=yo (by omega) n
  omega
theorem Sg {b m:Int} (B:2<=b) (n:b<=36) (z:Mp b m) (h:m<=10 ^ 40):pl b m<10 ^ 24:=by
 by_cases J:m=0
 ·subst J;unfold pl;rw [zo rfl];decide
 have I:1<=m:=by have:=z.1;omega
 have l0:=dF B z.1
 have g:=fD B I
 have Y:=au (show 0<b by omega) (hf (ln b m))
 have e1:b ^ hf (ln b m) * b ^ hf (ln b m)<=(36 * 10 ^ 20) * (36 * 10 ^ 20):=by
  rw [<-xz]
  have h1:hf (ln b m)+hf (ln b m)<=ln b m - 1+2:=by unfold hf;omega
  have h2:=bz (b:=b) (by omega) h1
  have D:b ^ (ln b m - 1+2)=b ^ (ln b m - 1) * b ^ 2:=xz ..
  rw [D] at h2
  have O:b ^ 2<=36 * 36:=by
   have:b ^ 2=b * b:=by rw [zL,rF]
   rw [this]
   exact yO n n (by omega) (by decide)
  have h4:b ^ (ln b m - 1) * b ^ 2<=10 ^ 40 * (36 * 36):=yO (by omega) O (by have:=au (show 0<b by omega) 2;omega) (by decide)
  have Z:(10:Int) ^ 40 * (36 * 36)=(36 * 10 ^ 20) * (36 * 10 ^ 20):=by decide
  omega
 have e2:=Sd (by omega) (by decide) e1
 have U:=Ls B z I
 have e4:=bz (b:=b) (by omega) (show ln b m / 2<=hf (ln b m) by unfold hf;omega)
 unfold ue at U
 have:(36:Int) * 10 ^ 20+36 * 10 ^ 20<10 ^ 24:=by decide
 omega
theorem Ah {b:Int} {n:Nat}:oV b (n+1)=oV b n+(if bG b ((n:Int)+1)=true then 1 else 0):=rfl
def iV (b:Int):Nat->List Int
 | 0=>[]
 | n+1=>if bG b ((n:Int)+1)=true then iV b n++[(n:Int)+1] else iV b n
def aX (b n:Int):List Int:=iV b n.toNat
theorem jl {b:Int} {n:Nat} (h:bG b ((n:Int)+1)=true):iV b (n+1)=iV b n++[(n:Int)+1]:=by rw [iV,zo h]
theorem jm {b:Int} {n:Nat} (h:¬bG b ((n:Int)+1)=true):iV b (n+1)=iV b n:=by rw [iV,zi h]
theorem Es {b:Int} {m:Nat}:∀{n:Nat},m<=n->(∀k:Int,(m:Int)<k->k<=(n:Int)->¬bG b k=true)->iV b n=iV b m
 | 0,h,_=>by
  have:m=0:=by omega
  rw [this]
 | n+1,h,hk=>by
  by_cases e:m=n+1
  ·rw [e]
  ·rw [jm (hk _ (by omega) (by omega))]
   exact Es (by omega) λk h1 h2=>hk k h1 (by omega)
theorem Et {b m z n:Int} (B:Mp b m) (h:Nx b m z) (O:m<=n) (J:n<z):aX b n=aX b m:=by
 have I:=B.1
 unfold aX
 refine Es (by omega) λk k1 k2 D=>?_
 have:=h.bot k ⟨by omega,D⟩ (by omega)
 omega
theorem Lw {b m m':Int} (z:Mp b m) (h:Nx b m m'):aX b m'=aX b m++[m']:=by
 have D:=z.1
 have lt:=h.lt
 have g:=Et z h (n:=m' - 1) (by omega) (by omega)
 rw [<-g]
 unfold aX
 obtain ⟨k,B⟩:∃k,m'.toNat=k+1:=⟨m'.toNat - 1,by omega⟩
 have e:(m' - 1).toNat=k:=by omega
 have e2:(k:Int)+1=m':=by omega
 rw [B,e,jl (by rw [e2];exact h.mp.2),e2]
theorem pY {b:Int}:∀{n:Nat} {k:Int},k∈iV b n ↔ 1<=k/\k<=(n:Int)/\bG b k=true
 | 0,k=>by
  simp only [iV,xt,false_iff]
  omega
 | n+1,k=>by
  have B:=pY (b:=b) (n:=n) (k:=k)
  by_cases h:bG b ((n:Int)+1)=true
  ·rw [jl h,zT,zD,B]
   constructor
   ·rintro (⟨h1,h2,z⟩|rfl)
    ·exact ⟨h1,by omega,z⟩
    ·exact ⟨by omega,by omega,h⟩
   ·rintro ⟨h1,h2,z⟩
    by_cases e:k=(n:Int)+1
    ·exact .inr e
    ·exact .inl ⟨h1,by omega,z⟩
  ·rw [jm h,B]
   constructor
   ·rintro ⟨h1,h2,z⟩;exact ⟨h1,by omega,z⟩
   ·rintro ⟨h1,h2,z⟩
    refine ⟨h1,?_,z⟩
    by_cases e:k=(n:Int)+1
    ·rw [e] at z;exact absurd z h
    ·omega
theorem gh {b n k:Int} (z:0<=n):k∈aX b n ↔ 1<=k/\k<=n/\bG b k=true:=by
 unfold aX
 rw [pY]
 have:((n.toNat:Nat):Int)=n:=by omega
 rw [this]
theorem rJ (b:Int):∀n:Nat,(iV b n).Pairwise (·<·)
 | 0=>List.Pairwise.nil
 | n+1=>by
  have z:=rJ b n
  by_cases h:bG b ((n:Int)+1)=true
  ·rw [jl h,List.pairwise_append]
   refine ⟨z,List.pairwise_singleton _ _,λx D y B=>?_⟩
   rw [zD] at B
   have:=(pY.mp D).2.1
   omega
  ·rw [jm h];exact z
theorem gJ (b n:Int):(aX b n).Pairwise (·<·):=rJ b _
theorem Eu (b:Int):∀n:Nat,((iV b n).length:Int)=oV b n
 | 0=>rfl
 | n+1=>by
  have z:=Eu b n
  by_cases h:bG b ((n:Int)+1)=true
  ·rw [jl h,zt,Ah,zo h,<-z];simp
  ·rw [jm h,Ah,zi h,<-z];simp
theorem m8 (b n:Int):((aX b n).length:Int)=cnt b n:=Eu b _
theorem Lx {b:Int} (n:2<=b) {L:Nat} (hL:1<=L):Nx b (b ^ (L - 1) - 1) (fG b (b ^ (hf L - 1)) L):=by
 by_cases h1:L=1
 ·subst h1
  have e:fG b (b ^ (hf 1 - 1)) 1=1:=by
   show fG b (b ^ 0) 1=1
   rw [xB]
   unfold fG;rw [rE (by decide) (by omega)];simp [val]
  rw [e]
  show Nx b (b ^ 0 - 1) 1
  rw [xB]
  exact Eo n
 ·obtain ⟨K,rfl⟩:∃K,L=K+1:=⟨L - 1,by omega⟩
  have z:1<=K:=by omega
  rw [yh]
  have nx:=Af n z
  have p:=bz (b:=b) (by omega) z
  rw [rF] at p
  have D:ln b (b ^ K+1)=K+1:=Lk n (by omega) (by rw [yh];omega) (by
   rw [zL]
   have:b ^ K * 2<=b ^ K * b:=yo n (by omega)
   omega)
  have mp:=eZ n (show 1<=b ^ K+1 by omega) nx.mp.2
  rw [D] at mp
  have fr:(b ^ K+1) / b ^ ((K+1) / 2)=b ^ (hf (K+1) - 1):=by
   have I:b ^ K=b ^ (hf (K+1) - 1) * b ^ ((K+1) / 2):=by
    rw [<-xz];congr 1;unfold hf;omega
   have p2:=au (show 0<b by omega) ((K+1) / 2)
   have B:=bz (b:=b) (by omega) (show 1<=(K+1) / 2 by omega)
   rw [rF] at B
   rw [I,xh,Int.add_mul_ediv_right _ _ (by omega),Int.ediv_eq_zero_of_lt (by decide) (by omega),xC]
  rw [fr] at mp
  rw [mp]
  exact nx
theorem ZZ {b f:Int} {L:Nat} (F:Fr b f L) (F1:Fr b (f+1) L):Nx b (fG b f L) (fG b (f+1) L):=by
 have n:=F.b2
 obtain ⟨D,B⟩:=ud n F.L1
 have z:fG b f L<b ^ L - 1:=by rw [<-B];exact F.mono D (by have:=F1.hi;omega)
 have s:=F.split.1
 have p:=au (show 0<b by omega) (L / 2)
 have fp:=F.pos
 have:=zB (show 1<=f by omega) (show 0<=b ^ (L / 2) by omega)
 have nx:=Ae n F.mp (by omega) (by rw [F.ln];omega)
 rw [F.ln,F.front] at nx
 exact nx.2
theorem vp {b n:Int} (B:2<=b) (D:b<=36) (h0:0<=n) (h:n<=10 ^ 6):cnt b n<80000:=by
 obtain ⟨m,z⟩:=uf B n.toNat
 rw [show ((n.toNat:Nat):Int)=n by omega] at z
 rw [<-lV B h0 z]
 have Z:=z.le
 by_cases O:m=0
 ·rw [O];unfold pl;rw [zo rfl];decide
 have J:1<=m:=by have:=z.mp.1;omega
 have l0:=dF B z.mp.1
 have g:=fD B J
 have hp:=au (show 0<b by omega) (hf (ln b m))
 have e1:b ^ hf (ln b m) * b ^ hf (ln b m)<=(36 * 10 ^ 3) * (36 * 10 ^ 3):=by
  rw [<-xz]
  have h1:hf (ln b m)+hf (ln b m)<=ln b m - 1+2:=by unfold hf;omega
  have h2:=bz (b:=b) (by omega) h1
  have I:b ^ (ln b m - 1+2)=b ^ (ln b m - 1) * b ^ 2:=xz ..
  rw [I] at h2
  have U:b ^ 2<=36 * 36:=by
   have:b ^ 2=b * b:=by rw [zL,rF]
   rw [this]
   exact yO D D (by omega) (by decide)
  have h4:b ^ (ln b m - 1) * b ^ 2<=10 ^ 6 * (36 * 36):=yO (by omega) U (by have:=au (show 0<b by omega) 2;omega) (by decide)
  have h5:(10:Int) ^ 6 * (36 * 36)=(36 * 10 ^ 3) * (36 * 10 ^ 3):=by decide
  omega
 have e2:=Sd (by omega) (by decide) e1
 have Y:=Ls B z.mp J
 have e4:=bz (b:=b) (by omega) (show ln b m / 2<=hf (ln b m) by unfold hf;omega)
 unfold ue at Y
 have:(36:Int) * 10 ^ 3+36 * 10 ^ 3<80000:=by decide
 omega
def cgF (b:Bool) (p:Int) (r:Nat->Int->Int):Nat->Nat->Int->Int
 | 0,k,n=>r k n
 | f+1,k,n=>r k n+if 0<p/\p<=n/\(b=true->0<k) then cgF b p r f (k - 1) (n - p) else 0
def cg (b:Bool):List Int->Nat->Int->Int
 | []=>λk n=>if n=0/\(b=true->k=0) then 1 else 0
 | p::ps=>λk n=>cgF b p (cg b ps) n.toNat k n
theorem Ly {b:Bool} {p:Int} {r:Nat->Int->Int}:∀f g k n,n.toNat<=f->n.toNat<=g->cgF b p r f k n=cgF b p r g k n:=by
 intro f
 induction f with
 | zero=>
  intro g k n h _
  cases g with
  | zero=>rfl
  | succ g=>exact ((zV (r k n+·) (zi (λz=>by omega))).trans (yK _)).symm
 | succ f ih=>
  intro g k n h j
  cases g with
  | zero=>exact (zV (r k n+·) (zi (λz=>by omega))).trans (yK _)
  | succ g=>
   refine zV (r k n+·) ?_
   by_cases z:0<p/\p<=n/\(b=true->0<k)
   ·exact (zo z).trans ((ih g (k - 1) (n - p) (by omega) (by omega)).trans (zo z).symm)
   ·exact (zi z).trans (zi z).symm
theorem eF {b:Bool} {k:Nat} {n:Int}:cg b [] k n=if n=0/\(b=true->k=0) then 1 else 0:=rfl
theorem dh {b:Bool} {p:Int} {ps:List Int} {k:Nat} {n:Int}:cg b (p::ps) k n=cg b ps k n+if 0<p/\p<=n/\(b=true->0<k) then cg b (p::ps) (k - 1) (n - p) else 0:=by
 refine (Ly n.toNat (n.toNat+1) k n (zC _) (Nat.le_succ _)).trans (zV (cg b ps k n+·) ?_)
 by_cases z:0<p/\p<=n/\(b=true->0<k)
 ·exact (zo z).trans ((Ly n.toNat (n - p).toNat (k - 1) (n - p) (by omega) (zC _)).trans (zo z).symm)
 ·exact (zi z).trans (zi z).symm
theorem rK {b:Bool} {p:Int} {ps:List Int} {Q:Nat->Int->Prop} (h:∀k n,(0<p->p<=n->(b=true->0<k)->Q (k - 1) (n - p))->Q k n):∀k n,Q k n:=by
 have:∀(m:Nat) (k:Nat) (n:Int),n.toNat<=m->Q k n:=by
  intro m
  induction m with
  | zero=>intro k n z;exact h k n λh1 h2 _=>by omega
  | succ m ih=>intro k n z;exact h k n λh1 h2 _=>ih _ _ (by omega)
 exact λk n=>this n.toNat k n (zC _)
theorem iW {b:Bool}:∀(ps:List Int) (k:Nat) (n:Int),0<=cg b ps k n
 | [],k,n=>by rw [eF];split<;>omega
 | p::ps,k,n=>by
  refine rK (b:=b) (p:=p) (ps:=ps) (Q:=λk n=>0<=cg b (p::ps) k n) (λk n z=>?_) k n
  rw [dh]
  have:=iW (b:=b) ps k n
  split
  ·rename_i h;have:=z h.1 h.2.1 h.2.2;omega
  ·omega
theorem Lz {b:Bool}:∀(ps:List Int) (k:Nat) (n:Int),n<0->cg b ps k n=0
 | [],k,n,h=>by rw [eF,zi (by omega)]
 | p::ps,k,n,h=>by rw [dh,Lz ps k n h,zi (by omega)];rfl
theorem vq {b:Bool}:∀(ps:List Int) (k:Nat),cg b ps k 0=if (b=true->k=0) then 1 else 0
 | [],k=>by rw [eF];simp
 | p::ps,k=>by
  have e:¬(0<p/\p<=(0:Int)/\(b=true->0<k)):=λz=>by omega
  rw [dh,vq ps k,zi e];exact yK _
theorem Ew:∀(ps:List Int) (k:Nat) (n:Int),n<(k:Int)->cg true ps k n=0
 | [],k,n,h=>by rw [eF,zi (λz=>by have:=z.2 rfl;omega)]
 | p::ps,k,n,h=>by
  refine rK (b:=true) (p:=p) (ps:=ps) (Q:=λk n=>n<(k:Int)->cg true (p::ps) k n=0) (λk n B h=>?_) k n h
  rw [dh,Ew ps k n h]
  split
  ·rename_i z
   have k0:=z.2.2 rfl
   rw [B z.1 z.2.1 z.2.2 (by omega)];rfl
  ·rfl
theorem pZ {m:Int} (B:0<=m):∀(ps:List Int),(∀x∈ps,x<=m)->∀(k:Nat) (n:Int),m * (k:Int)<n->cg true ps k n=0
 | [],hp,k,n,h=>by
  have:0<=m * (k:Int):=Int.mul_nonneg B (by omega)
  rw [eF,zi (by omega)]
 | p::ps,hp,k,n,h=>by
  have J:p<=m:=hp p (by simp)
  refine rK (b:=true) (p:=p) (ps:=ps) (Q:=λk n=>m * (k:Int)<n->cg true (p::ps) k n=0) (λk n D h=>?_) k n h
  rw [dh,pZ B ps (λx I=>hp x (by simp [I])) k n h]
  split
  ·rename_i z
   have k0:=z.2.2 rfl
   obtain ⟨j,rfl⟩:∃j,k=j+1:=⟨k - 1,by omega⟩
   have e:m * ((j+1:Nat):Int)=m * (j:Int)+m:=by rw [Int.natCast_add,Int.mul_add];simp
   rw [D z.1 z.2.1 z.2.2 (by rw [yh];omega)];rfl
  ·rfl
theorem Ai (ps:List Int) (n:Int):cg true ps 0 n=if n=0 then 1 else 0:=by
 by_cases h:n=0
 ·subst h;rw [vq];simp
 ·rw [zi h]
  by_cases h0:n<0
  ·exact Lz _ _ _ h0
  ·induction ps with
   | nil=>rw [eF,zi (by omega)]
   | cons p ps ih=>rw [dh,ih,zi (λz=>by have:=z.2.2 rfl;omega)];rfl
theorem vz {p:Int} {ps:List Int} {s:Nat} {t:Int} (n:0<p) (h:p<=t):cg true (p::ps) (s+1) t=cg true ps (s+1) t+cg true (p::ps) s (t - p):=by
 rw [dh,zo ⟨n,h,λ_=>Nat.succ_pos _⟩];rfl
theorem Sh {p:Int} {ps:List Int} {s:Nat} {t:Int} (n:0<p) (h:t<p+(s:Int)):cg true (p::ps) (s+1) t=cg true ps (s+1) t:=by
 by_cases z:p<=t
 ·rw [vz n z,Ew _ s (t - p) (by omega),yK]
 ·rw [dh,zi (by omega),yK]
theorem Sq {p:Int} {ps:List Int} {s:Nat} {t:Int} (D:0<p) (n:∀x∈ps,x<=p) (h:p * ((s:Int)+1)<t):cg true (p::ps) (s+1) t=cg true ps (s+1) t:=by
 have h':p * ((s+1:Nat):Int)<t:=by simpa using h
 rw [pZ (m:=p) (by omega) (p::ps) (λx B=>by rcases zu.mp B with z|z;omega;exact n x z) (s+1) t h',pZ (m:=p) (by omega) ps n (s+1) t h']
def at2 (n:List (List Int)) (s t:Nat):Option Int:=match n[s]? with
 | some r=>r[t]?
 | none=>none
theorem fH {n:List (List Int)} {s t:Nat} {v:Int} (h:at2 n s t=some v):∃r,n[s]? = some r/\r[t]? = some v:=by
 unfold at2 at h
 cases e:n[s]? with
 | none=>rw [e] at h;cases h
 | some r=>rw [e] at h;exact ⟨r,rfl,h⟩
theorem vA {n:List (List Int)} {s t:Nat} {r:List Int} (h:n[s]? = some r):at2 n s t=r[t]?:=by unfold at2;rw [h]
theorem Ex {B:List (List Int)} {n t0:Nat} {r:List Int} {v:Int} (h:B[n]? = some r) (I:t0<r.length) (s t:Nat):at2 (B.set n (r.set t0 v)) s t=if s=n/\t=t0 then some v else at2 B s t:=by
 obtain ⟨J,_⟩:=zx.mp h
 by_cases D:s=n
 ·subst D
  rw [vA (r:=r.set t0 v) (by rw [zM J]),vA h]
  by_cases z:t=t0
  ·subst z;rw [zM I,zo ⟨rfl,rfl⟩]
  ·rw [zz (Ne.symm z),zi (λy=>z y.2)]
 ·rw [zi (λy=>D y.1)]
  unfold at2
  rw [zz (Ne.symm D)]
structure Shape (N K:Nat) (ms:List (List Int)):Prop where
 len:K<ms.length
 row:∀(s:Nat) (r:List Int),ms[s]? = some r->N<r.length
theorem Shape.set {N K s t:Nat} {n:List (List Int)} {r:List Int} {v:Int} (h:Shape N K n) (B:n[s]? = some r):Shape N K (n.set s (r.set t v)):=by
 refine ⟨by rw [ye];exact h.len,λi D e=>?_⟩
 by_cases z:i=s
 ·subst z
  rw [zM (zx.mp B).1] at e
  cases e
  rw [ye];exact h.row i r B
 ·rw [zz (Ne.symm z)] at e
  exact h.row i D e
structure Tab (ps:List Int) (N K:Nat) (ms:List (List Int)):Prop where
 p8:Shape N K ms
 val:∀s t:Nat,s<=K->t+K<=N+s->at2 ms s t=some (cg true ps s t)
structure CP (p:Int) (ps:List Int) (N K i:Nat) (ms:List (List Int)):Prop where
 p8:Shape N K ms
 val:∀s t:Nat,s<=K->t+K<=N+s->at2 ms s t=some (cg true (if s<=i then p::ps else ps) s t)
structure vB (p:Int) (ps:List Int) (N K i:Nat) (c:Int) (ms:List (List Int)):Prop where
 p8:Shape N K ms
 val:∀s t:Nat,s<=K->t+K<=N+s->at2 ms s t=some (cg true (if s<=i\/(s=i+1/\(t:Int)<c) then p::ps else ps) s t)
section
variable {p:Int} {ps:List Int} {N K i:Nat} {c:Int} {ms:List (List Int)}
theorem Tab.start (h:Tab ps N K ms):CP p ps N K 0 ms:=⟨h.p8,λs t h1 h2=>by
 rw [h.val s t h1 h2]
 by_cases z:s<=0
 ·have:s=0:=by omega
  subst this
  rw [zo z,Ai,Ai]
 ·rw [zi z]⟩
theorem CP.fin (h:CP p ps N K K ms):Tab (p::ps) N K ms:=⟨h.p8,λs t h1 h2=>by rw [h.val s t h1 h2,zo h1]⟩
theorem CP.go (B:0<p) (h:CP p ps N K i ms):vB p ps N K i (p+(i:Int)) ms:=⟨h.p8,λs t h1 h2=>by
 rw [h.val s t h1 h2]
 by_cases z:s<=i
 ·rw [zo z,zo (.inl z)]
 ·rw [zi z]
  by_cases y:s=i+1/\(t:Int)<p+(i:Int)
  ·obtain ⟨rfl,n⟩:=y
   rw [zo (.inr ⟨rfl,n⟩),Sh B n]
  ·rw [zi (by omega)]⟩
theorem vB.step {r:List Int} {t0:Nat} {v:Int} (B:0<p) (h:vB p ps N K i c ms) (Y:i+1<=K) (O:c=(t0:Int)) (J:p<=c) (U:t0+K<=N+(i+1)) (n:ms[i+1]? = some r) (D:v=cg true ps (i+1) c+cg true (p::ps) i (c - p)) :
  vB p ps N K i (c+1) (ms.set (i+1) (r.set t0 v)):=by
 subst O
 have I:t0<r.length:=by have:=h.p8.row _ r n;omega
 refine ⟨h.p8.set n,λs t h1 h2=>?_⟩
 rw [Ex n I]
 by_cases z:s=i+1/\t=t0
 ·obtain ⟨rfl,rfl⟩:=z
  rw [zo ⟨rfl,rfl⟩,zo (.inr ⟨rfl,by omega⟩),D,vz B J]
 ·rw [zi z,h.val s t h1 h2]
  by_cases y:s<=i\/(s=i+1/\(t:Int)<(t0:Int))
  ·rw [zo y,zo (by omega)]
  ·rw [zi y,zi (by omega)]
theorem vB.read (h:vB p ps N K i c ms) (D:0<p) (B:i+1<=K) {t0:Nat} (n:c=(t0:Int)) (I:p+(i:Int)<=c) (z:t0+K<=N+(i+1)) :
  at2 ms (i+1) t0=some (cg true ps (i+1) c)/\at2 ms i (c - p).toNat=some (cg true (p::ps) i (c - p)):=by
 subst n
 refine ⟨?_,?_⟩
 ·rw [h.val (i+1) t0 B z,zi (by omega)]
 ·have e:(((t0:Int) - p).toNat:Int)=(t0:Int) - p:=by omega
  rw [h.val i _ (by omega) (by omega),zo (.inl (zC _)),e]
theorem vB.fin (h:vB p ps N K i c ms) (B:0<p) (n:∀x∈ps,x<=p) (D:∀t:Nat,t+K<=N+(i+1)->c<=(t:Int)->p * ((i:Int)+1)<(t:Int)):CP p ps N K (i+1) ms:=⟨h.p8,λs t h1 h2=>by
 rw [h.val s t h1 h2]
 by_cases z:s<=i\/(s=i+1/\(t:Int)<c)
 ·rw [zo z,zo (by omega)]
 ·rw [zi z]
  by_cases y:s<=i+1
  ·have e:s=i+1:=by omega
   subst e
   rw [zo y,Sq B n (D t h2 (by omega))]
  ·rw [zi y]⟩
theorem Tab.nil:Tab [] N K (([1]++List.replicate N 0)::List.replicate K (List.replicate (N+1) 0)):=by
 refine ⟨⟨by simp,λs r e=>?_⟩,λs t h1 h2=>?_⟩
 ·cases s with
  | zero=>simp at e;subst e;simp
  | succ s=>
   rw [List.getElem?_cons_succ,zX] at e
   split at e
   ·cases e;simp
   ·cases e
 ·rw [eF]
  cases s with
  | zero=>
   rw [vA (r:=[1]++List.replicate N 0) rfl]
   cases t with
   | zero=>simp
   | succ t=>
    have:t<N:=by omega
    simp [zX,this]
    omega
  | succ s=>
   rw [vA (r:=List.replicate (N+1) 0) (by rw [List.getElem?_cons_succ,zX,zo (by omega)])]
   rw [zX,zo (by omega),zi (λz=>by have:=z.2 rfl;omega)]
end
structure Cnt (ps:List Int) (N:Nat) (xs:List Int):Prop where
 len:xs.length=N+1
 val:∀t:Nat,t<=N->xs[t]? = some (cg false ps 0 t)
section
variable {p:Int} {ps:List Int} {N:Nat} {c:Int} {xs:List Int}
theorem Cnt.nil:Cnt [] N ([1]++List.replicate N 0):=⟨by simp,λt n=>by
 rw [eF]
 cases t with
 | zero=>simp
 | succ t=>
  have:t<N:=by omega
  simp [zX,this]
  omega⟩
end
def okW (b:Bool) (k:Nat) (l:List Int):Bool:=!b || decide (l.length=k)
theorem Ey {b d:Int} (n:2<=b) (B:1<=d) (z:d<b) (k:Nat):fP b (d * b ^ (k+1)+d) (d::(List.replicate k 0++[d])):=
 ⟨λe hd=>by
  rcases zu.mp hd with rfl|hd
  ·omega
  ·rcases zT.mp hd with hd|hd
   ·have:=List.eq_of_mem_replicate hd;omega
   ·rw [zD] at hd;omega,by
  rw [dN,gF,kh,zt,zF,yj];omega,by simp,.inr (by simp;omega)⟩
theorem Ss {b d:Int} (n:2<=b) (B:1<=d) (z:d<b) (k:Nat):Mp b (d * b ^ (k+1)+d):=by
 have p:=au (show 0<b by omega) (k+1)
 have p2:0<=d * b ^ (k+1):=Int.mul_nonneg (by omega) (by omega)
 refine ⟨by omega,?_⟩
 unfold bG
 rw [<-(Ey n B z k).fg n (by omega)]
 refine zW ?_
 rw [yu,yJ,List.reverse_replicate]
 simp
theorem AM.half {b n m:Int} (z:2<=b) (Y:1<=n) (h:AM b n m):n<=2 * m:=by
 have l0:=dF z (show 0<=n by omega)
 have I:=fD z Y
 have B:=gH z (show 0<=n by omega)
 by_cases hL:ln b n=1
 ·rw [hL,rF] at B
  have:=h.top n (dO (by omega) B) (yn _)
  omega
 ·obtain ⟨k,Z⟩:∃k,ln b n=k+2:=⟨ln b n - 2,by omega⟩
  rw [Z] at I B
  have e1:k+2 - 1=k+1:=rfl
  rw [e1] at I
  have p:=au (show 0<b by omega) (k+1)
  have p2:b<=b ^ (k+1):=by
   have:=bz (show 1<=b by omega) (show 1<=k+1 by omega)
   rw [rF] at this;omega
  generalize D:b ^ (k+1)=P at *
  have U:n<b * P:=by rw [<-D,yA,<-zL];exact B
  have q1:=Int.mul_ediv_add_emod n P
  have q2:=yC n p
  have q3:=yR n (show P≠0 by omega)
  have J:1<=n / P:=(Int.le_ediv_iff_mul_le p).mpr (by omega)
  have d2:n / P<b:=Int.ediv_lt_of_lt_mul p U
  generalize hd:n / P=d at *
  have hx:P * d=d * P:=yA _ _
  have x1:P<=d * P:=by
   have:=zB J (show 0<=P by omega);omega
  have M1:Mp b (d * P+d):=by rw [<-D];exact Ss z J d2 k
  by_cases c:d * P+d<=n
  ·have:=h.top _ M1 c
   omega
  ·by_cases d3:d=1
   ·subst d3
    have h1:=iU z (k+1)
    rw [D] at h1
    have:=h.top _ h1 (by omega)
    omega
   ·have O:Mp b ((d - 1) * P+(d - 1)):=by rw [<-D];exact Ss z (by omega) (by omega) k
    have e2:(d - 1) * P=d * P - P:=by rw [Int.sub_mul,xf]
    rw [e2] at O
    have x2:2 * P<=d * P:=zB (by omega) (by omega)
    have:=h.top _ O (by omega)
    omega
theorem AM.one {b n m:Int} (B:2<=b) (z:1<=n) (h:AM b n m):1<=m:=h.top 1 (dO (by decide) (by omega)) z
inductive Fw (b:Int):Int->List Int->Prop
 | nil:Fw b 0 []
 | cons {n m:Int} {L:List Int}:1<=n->AM b n m->Fw b (n - m) L->Fw b n (m::L)
theorem Fw.uniq {b n:Int} {L L':List Int} (h:Fw b n L) (h':Fw b n L'):L=L':=by
 induction h generalizing L' with
 | nil=>
  cases h' with
  | nil=>rfl
  | cons h _ _=>omega
 | cons h1 h2 _ ih=>
  cases h' with
  | nil=>omega
  | cons _ g2 g3=>
   have e:=h2.uniq g2
   subst e
   rw [ih g3]
theorem Fw.len {b:Int} (B:2<=b) {n:Int} {L:List Int} (h:Fw b n L):∀k:Nat,n<2 ^ k->L.length<=k:=by
 induction h with
 | nil=>intro k _;exact yN _
 | @cons n m L h1 h2 _ ih=>
  intro k z
  cases k with
  | zero=>simp at z;omega
  | succ k=>
   have:=h2.half B h1
   rw [zL] at z
   have:=ih k (by omega)
   simp;omega
theorem Fw.all {b n:Int} (B:2<=b) {L:List Int} (h:Fw b n L):∀x∈L,1<=x/\bG b x=true/\x<=n:=by
 induction h with
 | nil=>intro x z;simp at z
 | cons h1 h2 h3 ih=>
  intro x z
  rcases zu.mp z with rfl|z
  ·exact ⟨h2.one B h1,h2.mp.2,h2.le⟩
  ·obtain ⟨a1,a2,a3⟩:=ih x z
   have:=h2.one B h1
   exact ⟨a1,a2,by omega⟩
def tw (b n:Int):List Int:=(aX b (n / 2)).filter λx=>bG b (n - x)
theorem range_getD (xs:List Int):(List.range xs.length).map (λi=>xs.getD i 0)=xs:=by
 apply List.ext_getElem?
 intro i
 rw [zP]
 by_cases h:i<xs.length
 ·rw [List.getElem?_range h,zd h]
  show some (xs.getD i 0)=some xs[i]
  rw [zj,zd h];rfl
 ·rw [List.getElem?_eq_none (by simpa using h),List.getElem?_eq_none (by omega)];rfl
theorem vC {α:Type} (t:Int->Bool) (f:Int->α) (xs:List Int):((List.range xs.length).filter (λi=>t (xs.getD i 0))).map (λi=>f (xs.getD i 0))=(xs.filter t).map f:=by
 have h:(xs.filter t).map f=(((List.range xs.length).map (λi=>xs.getD i 0)).filter t).map f:=by rw [range_getD]
 rw [h,List.filter_map,List.map_map]
 rfl
inductive Sm (b:Int):Nat->Int->Prop
 | zero:Sm b 0 0
 | add {k:Nat} {n p:Int}:Sm b k n->1<=p->bG b p=true->Sm b (k+1) (n+p)
theorem Sm.nn {b n:Int} {k:Nat} (h:Sm b k n):0<=n:=by
 induction h with
 | zero=>omega
 | add _ h1 _ ih=>omega
theorem Sm.none {b n:Int} (h:Sm b 0 n):n=0:=by cases h;rfl
theorem Sm.cut {b n:Int} {k:Nat} (h:Sm b (k+1) n):∃p,1<=p/\bG b p=true/\p<=n/\Sm b k (n - p):=by
 cases h with
 | @add _ m p h1 h2 h3=>
  have:=h1.nn
  exact ⟨p,h2,h3,by omega,by rw [Int.add_sub_cancel];exact h1⟩
theorem Ez {b:Int} (z:2<=b):∀n:Nat,Sm b n (n:Int)
 | 0=>.zero
 | n+1=>by
  have:=Sm.add (Ez z n) (show (1:Int)<=1 by decide) (oR (by decide) (by omega))
  exact this
theorem least {P:Nat->Prop}:∀n:Nat,P n->∃k,k<=n/\P k/\∀j,j<k->¬P j
 | 0,h=>⟨0,zC _,h,λj D=>absurd D (by omega)⟩
 | n+1,h=>by
  by_cases B:∃m,m<=n/\P m
  ·obtain ⟨m,J,z⟩:=B
   obtain ⟨k,h1,h2,I⟩:=least m z
   exact ⟨k,by omega,h2,I⟩
  ·exact ⟨n+1,zC _,h,λj D z=>B ⟨j,by omega,z⟩⟩
theorem Z0 {b n:Int} (z:2<=b) (B:0<=n):∃k,k<=n.toNat/\Sm b k n/\∀j,j<k->¬Sm b j n:=by
 have h:=Ez z n.toNat
 rw [show ((n.toNat:Nat):Int)=n by omega] at h
 exact least n.toNat h
noncomputable def nd (b n:Int):Nat:=open Classical in if h:∃k,Sm b k n/\∀j,j<k->¬Sm b j n then h.choose else 0
theorem kj {b n:Int} (D:2<=b) (B:0<=n):Sm b (nd b n) n/\(∀j,j<nd b n->¬Sm b j n):=by
 obtain ⟨k,h1,h2,I⟩:=Z0 D B
 have z:∃k,Sm b k n/\∀j,j<k->¬Sm b j n:=⟨k,h2,I⟩
 unfold nd
 rw [dif_pos z]
 exact z.choose_spec
theorem rM {b n:Int} {k:Nat} (B:2<=b) (h:Sm b k n):nd b n<=k:=by
 have s:=kj B h.nn
 by_cases z:nd b n<=k
 ·exact z
 ·exact absurd h (s.2 k (by omega))
theorem vD {b:Int} (n:2<=b):nd b 0=0:=by have:=rM n (Sm.zero (b:=b));omega
theorem CQ {b n:Int} (B:2<=b) (D:1<=n):1<=nd b n:=by
 by_cases z:1<=nd b n
 ·exact z
 ·have s:=(kj B (show 0<=n by omega)).1
  rw [show nd b n=0 by omega] at s
  have:=s.none
  omega
theorem CT {b n:Int} (z:2<=b) (B:1<=n):nd b n<=1 ↔ bG b n=true:=by
 constructor
 ·intro h
  have p:=CQ z B
  have s:=(kj z (show 0<=n by omega)).1
  rw [show nd b n=0+1 by omega] at s
  obtain ⟨q,h1,h2,I,D⟩:=s.cut
  have:=D.none
  rw [show n=q by omega];exact h2
 ·intro h
  have:=rM z (Sm.add (Sm.zero (b:=b)) B h)
  rw [xC] at this
  exact this
theorem Z1 {b n p:Int} (B:2<=b) (J:1<=p) (I:bG b p=true) (O:p<=n):nd b n<=nd b (n - p)+1:=by
 have D:=(kj B (show 0<=n - p by omega)).1
 have z:=Sm.add D J I
 rw [Int.sub_add_cancel] at z
 exact rM B z
structure Way (b:Int) (m:Nat) (n:Int) (L:List Int):Prop where
 len:L.length=m
 sum:L.sum=n
 mem:∀x∈L,1<=x/\bG b x=true
 fall:L.Pairwise (λx y=>y<=x)
theorem EY {b:Int}:∀{L:List Int},(∀x∈L,1<=x/\bG b x=true)->Sm b L.length L.sum
 | [],_=>.zero
 | x::r,h=>by
  have n:=h x zn
  have:=Sm.add (EY (L:=r) λy z=>h y (zr _ z)) n.1 n.2
  rw [zJ,yX,xh]
  exact this
theorem Way.sm {b n:Int} {m:Nat} {L:List Int} (h:Way b m n L):Sm b m n:=by
 have:=EY h.mem
 rw [h.len,h.sum] at this;exact this
theorem E_ {b p:Int} (p1:1<=p) (O:bG b p=true):∀{L:List Int} {m:Nat} {n:Int},Way b m n L->∃J,Way b (m+1) (n+p) J/\∀y∈J,y=p\/y∈L
 | [],m,n,h=>by
  refine ⟨[p],⟨by have:=h.len;simp at this;simp [this],by have:=h.sum;simp at this;simp [<-this],λx I=>?_,by simp⟩,λy B=>by simp at B;exact .inl B⟩
  simp at I;subst I;exact ⟨p1,O⟩
 | x::r,m,n,h=>by
  have hf:=List.pairwise_cons.mp h.fall
  by_cases I:x<=p
  ·refine ⟨p::x::r,⟨by simp [<-h.len],by rw [yX,h.sum];omega,λy B=>?_,List.pairwise_cons.mpr ⟨λy B=>?_,h.fall⟩⟩,λy B=>?_⟩
   ·rcases zu.mp B with rfl|B
    ·exact ⟨p1,O⟩
    ·exact h.mem y B
   ·rcases zu.mp B with rfl|B
    ·exact I
    ·have:=hf.1 y B;omega
   ·rcases zu.mp B with rfl|B
    ·exact .inl rfl
    ·exact .inr B
  ·have U:Way b r.length r.sum r:=⟨rfl,rfl,λy B=>h.mem y (zr _ B),hf.2⟩
   obtain ⟨J,D,o'⟩:=E_ p1 O U
   have es:=h.sum
   rw [yX] at es
   refine ⟨x::J,⟨by rw [zJ,D.len,<-h.len,zJ],by rw [yX,D.sum];omega,λy B=>?_,List.pairwise_cons.mpr ⟨λy B=>?_,D.fall⟩⟩,λy B=>?_⟩
   ·rcases zu.mp B with rfl|B
    ·exact h.mem _ zn
    ·exact D.mem y B
   ·rcases o' y B with rfl|z
    ·omega
    ·exact hf.1 y z
   ·rcases zu.mp B with rfl|B
    ·exact .inr zn
    ·rcases o' y B with z|z
     ·exact .inl z
     ·exact .inr (zr _ z)
theorem Sm.way {b n:Int} {m:Nat} (h:Sm b m n):∃L,Way b m n L:=by
 induction h with
 | zero=>exact ⟨[],rfl,rfl,λx B=>by simp at B,.nil⟩
 | add _ p1 pm ih=>
  obtain ⟨L,w⟩:=ih
  obtain ⟨D,z,_⟩:=E_ p1 pm w
  exact ⟨D,z⟩
theorem Way.head {b n p:Int} {m:Nat} {L:List Int} (h:Way b (m+1) n (p::L)):Way b m (n - p) L/\1<=p/\bG b p=true/\∀y∈L,y<=p:=by
 have hf:=List.pairwise_cons.mp h.fall
 have es:=h.sum
 rw [yX] at es
 have B:=h.len
 rw [zJ] at B
 exact ⟨⟨by omega,by omega,λy z=>h.mem y (zr _ z),hf.2⟩,(h.mem p zn).1,(h.mem p zn).2,hf.1⟩
theorem Way.cons {b n:Int} {m:Nat} {L:List Int} (h:Way b (m+1) n L):∃p r,L=p::r:=by
 cases L with
 | nil=>have:=h.len;simp at this
 | cons p r=>exact ⟨p,r,rfl⟩
theorem LC {p:Int}:∀{L:List Int},(∀y∈L,y<=p)->L.sum<=p * (L.length:Int)
 | [],_=>by simp
 | x::r,h=>by
  have z:=LC (L:=r) λy n=>h y (zr _ n)
  have B:=h x zn
  rw [yX,zJ]
  have e:p * ((r.length+1:Nat):Int)=p * (r.length:Int)+p:=by push_cast;rw [Int.mul_add,Int.mul_one]
  rw [e];omega
inductive Gt (b:Int):Nat->Int->List Int->Prop
 | nil:Gt b 0 0 []
 | cons {m:Nat} {n p:Int} {L:List Int}:1<=p->bG b p=true->Gt b m (n - p) L->(∀q,p<q->bG b q=true->¬Sm b m (n - q))->Gt b (m+1) n (p::L)
theorem Gt.way {b n:Int} {m:Nat} {L:List Int} (h:Gt b m n L):Way b m n L:=by
 induction h with
 | nil=>exact ⟨rfl,rfl,λx D=>by simp at D,.nil⟩
 | @cons m n p L p1 pm g no ih=>
  refine ⟨by rw [zJ,ih.len],by rw [yX,ih.sum];omega,λx D=>?_,List.pairwise_cons.mpr ⟨?_,ih.fall⟩⟩
  ·rcases zu.mp D with rfl|D
   ·exact ⟨p1,pm⟩
   ·exact ih.mem x D
  ·cases m with
   | zero=>intro y B;rw [yI.mp ih.len] at B;simp at B
   | succ k=>
    obtain ⟨q,r,rfl⟩:=ih.cons
    obtain ⟨w,q1,I,J⟩:=ih.head
    have O:q<=p:=by
     by_cases z:q<=p
     ·exact z
     ·exfalso
      refine no q (by omega) I ?_
      have:=Sm.add w.sm p1 pm
      rw [show n - p - q+p=n - q by omega] at this
      exact this
    intro y B
    rcases zu.mp B with rfl|B
    ·exact O
    ·have:=J y B;omega
theorem WK {b n p:Int} {m:Nat} (h:p * ((m+1:Nat):Int)<n) (O:∀q,p<q->q<=n->bG b q=true->¬Sm b m (n - q)):¬Sm b (m+1) n:=λs=>by
 obtain ⟨L,w⟩:=s.way
 obtain ⟨q,r,rfl⟩:=w.cons
 obtain ⟨D,q1,I,J⟩:=w.head
 have h0:=D.sm.nn
 have U:=LC (p:=q) (L:=q::r) (λy B=>by
  rcases zu.mp B with rfl|B
  ·omega
  ·exact J y B)
 rw [w.sum,w.len] at U
 by_cases z:p<q
 ·exact O q z (by omega) I D.sm
 ·have:q * ((m+1:Nat):Int)<=p * ((m+1:Nat):Int):=zB (by omega) (by omega)
  omega
theorem LK {b n:Int} {m:Nat} (h:Sm b m n) (B:n<=0):m=0:=by
 cases m with
 | zero=>rfl
 | succ k=>
  obtain ⟨p,h1,h2,D,z⟩:=h.cut
  have:=z.nn
  omega
theorem GQ {b n:Int} (B:2<=b) (O:1<=n):∃p,1<=p/\p<=n/\bG b p=true/\n - p<=p:=by
 by_cases hs:n<b
 ·exact ⟨n,O,yn _,oR (by omega) hs,by omega⟩
 have L1:=dF B (show 0<=n by omega)
 have lg:=fD B O
 have J:=gH B (show 0<=n by omega)
 obtain ⟨k,hk⟩:∃k,ln b n=k+2:=by
  refine ⟨ln b n - 2,?_⟩
  by_cases z:ln b n=1
  ·rw [z,rF] at J;omega
  ·omega
 rw [hk] at lg J
 rw [show k+2 - 1=k+1 by omega] at lg
 have Y:b ^ (k+2)=b ^ (k+1) * b:=zL _ _
 have Z:0<b ^ (k+1):=au (by omega) _
 -- the first ac9
 obtain ⟨d,r,hd,r0,r1⟩:∃d r:Int,n=d * b ^ (k+1)+r/\0<=r/\r<b ^ (k+1):=
  ⟨n / b ^ (k+1),n % b ^ (k+1),by have:=Int.mul_ediv_add_emod n (b ^ (k+1));rw [yA] at this;omega,yR _ (by omega),yC _ Z⟩
 have U:1<=d:=by
  by_cases z:1<=d
  ·exact z
  ·have:d * b ^ (k+1)<=0 * b ^ (k+1):=zB (by omega) (by omega)
   omega
 have d2:d<b:=by
  by_cases z:d<b
  ·exact z
  ·have:b * b ^ (k+1)<=d * b ^ (k+1):=zB (by omega) (by omega)
   rw [Y,yA] at J
   omega
 have bp:b<=b ^ (k+1):=by
  have:=bz (b:=b) (by omega) (show 1<=k+1 by omega)
  rwa [rF] at this
 have dd:∀e:Int,1<=e->e<b->bG b (e * b ^ (k+1)+e)=true:=λe e1 e2=>by
  have D:=Ey B e1 e2 k
  have z:=D.fg B (D.nn B)
  unfold bG
  rw [yw,<-z]
  simp
 have ge:b ^ (k+1)<=d * b ^ (k+1):=by
  have:1 * b ^ (k+1)<=d * b ^ (k+1):=zB U (by omega)
  omega
 by_cases h1:d<=r
 ·exact ⟨d * b ^ (k+1)+d,by omega,by omega,dd d U d2,by omega⟩
 by_cases h2:2<=d
 ·have e:(d - 1) * b ^ (k+1)=d * b ^ (k+1) - b ^ (k+1):=by rw [Int.sub_mul,xf]
  have ge2:2 * b ^ (k+1)<=d * b ^ (k+1):=zB h2 (by omega)
  refine ⟨(d - 1) * b ^ (k+1)+(d - 1),by omega,by omega,dd (d - 1) (by omega) (by omega),by omega⟩
 ·have d0:d=1:=by omega
  subst d0
  have I:r=0:=by omega
  subst I
  rw [xf,yK] at hd
  refine ⟨n - 1,by omega,by omega,?_,by omega⟩
  rw [hd]
  exact (iU B (k+1)).2
theorem CV {b:Int} (B:2<=b):∀(k:Nat) {n:Int},0<=n->n<2 ^ k->nd b n<=k
 | 0,n,h0,h=>by
  have:n=0:=by have e:(2:Int) ^ 0=1:=rfl;omega
  subst this
  rw [vD B];exact zC _
 | k+1,n,h0,h=>by
  by_cases z:n=0
  ·subst z;rw [vD B];omega
  obtain ⟨p,I,pn,D,J⟩:=GQ B (show 1<=n by omega)
  have e:(2:Int) ^ (k+1)=2 ^ k * 2:=zL _ _
  have O:=CV B k (n:=n - p) (by omega) (by omega)
  have:=Z1 B I D pn
  omega
theorem Su:∀(ps:List Int) (k:Nat) (n:Int),cg true ps k n<=((ps.length:Nat):Int) ^ k
 | [],k,n=>by
  rw [eF]
  cases k with
  | zero=>split<;>simp
  | succ k=>rw [zi (λz=>by have:=z.2 rfl;omega)];simp [zL]
 | p::ps,k,n=>by
  refine rK (b:=true) (p:=p) (ps:=ps) (Q:=λk n=>cg true (p::ps) k n<=(((p::ps).length:Nat):Int) ^ k) (λk n B=>?_) k n
  rw [dh]
  have h1:=Su ps k n
  rw [zJ] at B ⊢
  have D:((ps.length:Nat):Int) ^ k<=(((ps.length+1:Nat)):Int) ^ k:=by
   have:ps.length ^ k<=(ps.length+1) ^ k:=Nat.pow_le_pow_left (by omega) k
   exact_mod_cast this
  by_cases c:0<p/\p<=n/\(true=true->0<k)
  ·rw [zo c]
   have h2:=B c.1 c.2.1 c.2.2
   obtain ⟨j,rfl⟩:∃j,k=j+1:=⟨k - 1,by have:=c.2.2 rfl;omega⟩
   rw [yh] at h2
   have:ps.length ^ (j+1)+(ps.length+1) ^ j<=(ps.length+1) ^ (j+1):=by
    rw [Nat.pow_succ,Nat.pow_succ,Nat.mul_add,Nat.mul_one]
    have:ps.length ^ j * ps.length<=(ps.length+1) ^ j * ps.length:=Nat.mul_le_mul_right _ (Nat.pow_le_pow_left (by omega) j)
    omega
   have I:((ps.length:Nat):Int) ^ (j+1)+(((ps.length+1:Nat)):Int) ^ j<=(((ps.length+1:Nat)):Int) ^ (j+1):=by exact_mod_cast this
   rw [yh]
   omega
  ·rw [zi c];omega
end M
namespace TX
open PySem Builtin Builtin.Str StrLaws
def sep:Str:=" + "
theorem bN (x:Str):x.cps.toList.length=x.length:=by simp [Str.length]
theorem jV {a b:Str} (h:a.cps.toList=b.cps.toList):a=b:=Str.ext' (Array.toList_inj.mp h)
theorem fJ (a b:Str):(a++b).cps.toList=a.cps.toList++b.cps.toList:=by rw [Str.cps_append];simp
def tx (n:Int):Str:=Str.ofString (toString n)
open PySem.W.KIN NumText
theorem Aj (m:Nat):(tx (m:Int)).cps.toList=(Nat.toDigits 10 m).map Char.toNat:=signs_num m
theorem WL (m:Nat):AllDigits (tx (m:Int)).cps.toList:=by
 intro c z
 rw [Aj] at z
 obtain ⟨B,n,e⟩:=zZ.mp z
 have r:=PyProof.Rows.digit_range (Nat.isDigit_of_mem_toDigits (by decide) (by decide) n)
 rw [<-e]
 exact r
theorem vG:∀(k m:Nat),1<=k->m<10 ^ k->(Nat.toDigits 10 m).length<=k
 | 0,_,h,_=>by omega
 | k+1,m,_,hm=>by
  by_cases h:m<10
  ·rw [xa h];simp
  ·have n:m % 10<10:=Nat.mod_lt m (by decide)
   have t:Nat.toDigits 10 (m / 10)++Nat.toDigits 10 (m % 10)=Nat.toDigits 10 (10 * (m / 10)+m % 10):=Nat.toDigits_append_toDigits (by decide) (by omega) n
   rw [Nat.div_add_mod] at t
   have e:10 ^ (k+1)=10 ^ k * 10:=Nat.pow_succ ..
   have k1:1<=k:=by
    cases k with
    | zero=>simp at hm;omega
    | succ k=>omega
   have z:=vG k (m / 10) k1 (by omega)
   rw [<-t,zt,xa n]
   simp
   omega
theorem LQ:∀(m:Nat),1<=m->∃c r,Nat.toDigits 10 m=c::r/\c.toNat≠48:=by
 intro m
 induction m using Nat.strongRecOn with
 | _ m ih=>
  intro h1
  by_cases h:m<10
  ·rw [xa h]
   refine ⟨_,[],rfl,?_⟩
   have all:∀d:Nat,d<10->1<=d->(Nat.digitChar d).toNat≠48:=by decide
   exact all m h h1
  ·have n:m % 10<10:=Nat.mod_lt m (by decide)
   have t:Nat.toDigits 10 (m / 10)++Nat.toDigits 10 (m % 10)=Nat.toDigits 10 (10 * (m / 10)+m % 10):=Nat.toDigits_append_toDigits (by decide) (by omega) n
   rw [Nat.div_add_mod] at t
   obtain ⟨c,r,e,z⟩:=ih (m / 10) (by omega) (by omega)
   rw [<-t,e]
   exact ⟨c,_,rfl,z⟩
def LR:Str:="0123456789"
theorem WM:∀c:Nat,48<=c/\c<=57->L2.Zk ⟨#[c]⟩ LR=true:=by
 intro c n
 have all:∀k:Fin 10,L2.Zk ⟨#[48+k.val]⟩ LR=true:=by decide
 have:=all ⟨c - 48,by omega⟩
 rw [show 48+(⟨c - 48,by omega⟩:Fin 10).val=c by show 48+(c - 48)=c;omega] at this
 exact this
end TX
namespace TX
open PySem Builtin Builtin.Str StrLaws
open PySem.W.KIN NumText
theorem QB:∀(k:Nat) (l:List Nat),l.length=k->(∀c∈l,48<=c/\c<=57)->(∃c r,l=c::r/\c≠48)->∃m,1<=m/\m<10 ^ k/\(Nat.toDigits 10 m).map Char.toNat=l:=by
 have O:∀d:Nat,d<10->(Nat.digitChar d).toNat=48+d:=by decide
 intro k
 induction k with
 | zero=>
  intro l n _ ⟨c,r,e,_⟩
  rw [e] at n;simp at n
 | succ k ih=>
  intro l n hd J
  have B:l≠[]:=λz=>by rw [z] at n;simp at n
  obtain ⟨i,x,rfl⟩:∃i x,l=i++[x]:=⟨l.dropLast,l.getLast B,(yP B).symm⟩
  have hx:=hd x (by simp)
  have I:i.length=k:=by simpa using n
  by_cases z:i=[]
  ·subst z
   obtain ⟨c,r,e,D⟩:=J
   have:x=c:=by simpa using zV List.head? e
   subst this
   refine ⟨x - 48,by omega,?_,?_⟩
   ·have:k=0:=by simpa using I.symm
    subst this
    omega
   ·rw [xa (by omega)]
    simp only [yq,List.map_nil,List.nil_append]
    rw [O _ (by omega),show 48+(x - 48)=x by omega]
  ·obtain ⟨m,Z,Y,U⟩:=ih i I (λc D=>hd c (by simp [D])) (by
    obtain ⟨c,r,e,D⟩:=J
    cases i with
    | nil=>exact absurd rfl z
    | cons y ys=>
     rw [List.cons_append,List.cons.injEq] at e
     exact ⟨y,ys,rfl,by rw [e.1];exact D⟩)
   refine ⟨10 * m+(x - 48),by omega,?_,?_⟩
   ·rw [Nat.pow_succ];omega
   ·have t:Nat.toDigits 10 m++Nat.toDigits 10 (x - 48)=Nat.toDigits 10 (10 * m+(x - 48)):=Nat.toDigits_append_toDigits (by decide) (by omega) (by omega)
    rw [<-t,yp,U,xa (by omega)]
    simp only [yq,List.map_nil]
    rw [O _ (by omega),show 48+(x - 48)=x by omega]
def okW (w:Str):Bool:=decide (1<=w.length) && decide (w.length<=40) && !(w.cps.toList.head? == some 48) && w.cps.toList.all λc=>decide (48<=c) && decide (c<=57)
def nm (w:Str):Option Int:=if okW w then intText? w else none
theorem QC:∀c:Nat,c<128->¬(48<=c/\c<=57)->L2.Zk ⟨#[c]⟩ LR=false:=by
 intro c z n
 have all:∀k:Fin 128,¬(48<=k.val/\k.val<=57)->L2.Zk ⟨#[k.val]⟩ LR=false:=by decide
 exact all ⟨c,z⟩ n
end TX
namespace TX
open PySem Builtin Builtin.Str StrLaws
open PySem.W.KIN NumText
structure Nz (n:Int):Prop where
 dig:AllDigits (tx n).cps.toList
 QD:1<=(tx n).length
 len:(tx n).length<=50
 rd:intText? (tx n)=some n
 as:(tx n).cps.all (·<128)=true
 lg:n.natAbs.log2<1920
 hd:n=0\/∃c r,(tx n).cps.toList=c::r/\c≠48
theorem bA {n:Int} (h0:0<=n) (O:n<10 ^ 50):Nz n:=by
 obtain ⟨m,rfl⟩:=yE h0
 have D:m<10 ^ 50:=by exact_mod_cast O
 have hd:=WL m
 have ne:(Nat.toDigits 10 m)≠[]:=Nat.toDigits_ne_nil
 have J:1<=(tx (m:Int)).length:=by
  rw [<-bN,Aj,z9]
  exact List.length_pos_iff.mpr ne
 have I:(tx (m:Int)).length<=50:=by
  rw [<-bN,Aj,z9]
  exact vG 50 m (by decide) D
 have rd:=intText_digits hd (by rw [Aj];simpa using ne) (yi I (by decide))
 rw [Aj,val_back] at rd
 refine ⟨hd,J,I,rd,?_,?_,?_⟩
 ·rw [<-xq,yF]
  intro c B
  have:=hd c B
  exact zW (by omega)
 ·by_cases z:m=0
  ·subst z;decide
  ·have:m<2 ^ 1000:=xu D (by decide)
   exact zK ((Nat.log2_lt z).mpr this) (by decide)
 ·by_cases z:m=0
  ·exact .inl (by rw [z];rfl)
  ·obtain ⟨c,r,e,B⟩:=LQ m (by omega)
   exact .inr ⟨_,_,by rw [Aj,e];rfl,B⟩
def wr (w:Str):Bool:=decide (1<=w.length) && decide (w.length<=41) && (decide (w.length=1) || !(w.cps.toList.head? == some 48)) && w.cps.toList.all λc=>decide (48<=c) && decide (c<=57)
theorem tx0:tx 0=("0":Str):=by decide
theorem Z2 {w:Str} (h:wr w=true):∃n:Int,0<=n/\n<10 ^ 41/\w=tx n:=by
 unfold wr at h
 simp only [yx,Bool.or_eq_true,yw,yF,Bool.not_eq_true'] at h
 obtain ⟨⟨⟨h1,h2⟩,B⟩,J⟩:=h
 cases D:w.cps.toList with
 | nil=>rw [<-bN,D] at h1;simp at h1
 | cons c r=>
  rw [D] at B J
  by_cases z:c=48
  ·have O:r=[]:=by
    rcases B with B|B
    ·have:=bN w
     rw [D,B] at this
     simpa using this
    ·rw [z] at B;simp at B
   refine ⟨0,by decide,by decide,jV ?_⟩
   rw [tx0,D,z,O]
   decide
  ·obtain ⟨m,Y,I,U⟩:=QB _ (c::r) rfl J ⟨c,r,rfl,z⟩
   rw [<-D,bN] at I
   refine ⟨(m:Int),by omega,?_,jV ?_⟩
   ·have:m<10 ^ 41:=zK I (Nat.pow_le_pow_right (by decide) h2)
    exact_mod_cast this
   ·rw [D,Aj,U]
theorem Sv {n:Int} (h0:0<=n) (D:n<10 ^ 41):wr (tx n)=true:=by
 have B:=bA h0 (yL D (by decide))
 obtain ⟨m,rfl⟩:=yE h0
 have I:m<10 ^ 41:=by exact_mod_cast D
 have J:(tx (m:Int)).length<=41:=by
  rw [<-bN,Aj,z9]
  exact vG 41 m (by decide) I
 unfold wr
 simp only [yx,Bool.or_eq_true,yw,yF,Bool.not_eq_true']
 refine ⟨⟨⟨B.QD,J⟩,?_⟩,B.dig⟩
 rcases B.hd with z|⟨c,r,e,O⟩
 ·rw [z];exact .inl (by decide)
 ·exact .inr (by rw [e];simpa using O)
def num (w:Str) (bd:Int):Option Int:=if wr w=true then (intText? w).bind λn=>if n<=bd then some n else none else none
theorem gK {w:Str} {bd n:Int} (h:num w bd=some n):0<=n/\n<10 ^ 41/\n<=bd/\w=tx n:=by
 unfold num at h
 by_cases z:wr w=true
 ·obtain ⟨m,D,B,rfl⟩:=Z2 z
  rw [zo z,(bA D (yL B (by decide))).rd] at h
  simp only [Option.bind_some] at h
  by_cases y:m<=bd
  ·rw [zo y] at h;cases h;exact ⟨D,B,y,rfl⟩
  ·rw [zi y] at h;cases h
 ·rw [zi z] at h;cases h
theorem WN {bd n:Int} (h0:0<=n) (z:n<10 ^ 41):num (tx n) bd=if n<=bd then some n else none:=by
 unfold num
 rw [zo (Sv h0 z),(bA h0 (yL z (by decide))).rd]
 rfl
def BT:List (Str × List Int):=[("base",[10 ^ 40]),("figures",[10 ^ 40]),("is",[10 ^ 40]),("below",[10 ^ 40]),("above",[10 ^ 40]),("count",[10 ^ 40]),("at",[10 ^ 20]),("place",[10 ^ 40]),("few",[10 ^ 40]),("two",[10 ^ 6]),("fewest",[10 ^ 6]),("ways",[500,12]),("way",[500,12,10 ^ 40])]
def nums:List Str->List Int->Option (List Int)
 | [],[]=>some []
 | w::ws,b::bs=>(num w b).bind λn=>(nums ws bs).map (n::·)
 | _,_=>none
def dw:Str:=" "
def rowOf (w:Str):Option (Str × List Int):=match Txt.split w dw with
 | []=>none
 | f::os=>(BT.lookup f).bind λbs=>(nums os bs).map (f,·)
theorem gM (sp w v:Str) (r:List Str):(Str.join sp (w::v::r)).cps.toList=w.cps.toList++(sp.cps.toList++(Str.join sp (v::r)).cps.toList):=by
 show (w++sp++Str.join sp (v::r)).cps.toList=_
 rw [fJ,fJ,yt]
theorem Z3 {sp:Str} {sr:List Nat} (n:sp.cps.toList=32::sr) {x:Str} {k:Nat} (h:At x sp x.length k):∃t,x.cps.toList.drop k=32::t:=by
 obtain ⟨h1,h2⟩:=h
 rw [subAt_eq,n,show sp.length=sr.length+1 by rw [<-bN,n];rfl] at h2
 have e:=eq_of_beq h2
 cases hd:x.cps.toList.drop k with
 | nil=>rw [hd] at e;simp at e
 | cons c t=>
  rw [hd] at e
  have:c=32:=by
   have:=zV List.head? e
   simpa using this
  exact ⟨t,by rw [this]⟩
theorem Fb {sp:Str} {sr:List Nat} (D:sp.cps.toList=32::sr) {x:Str}:∀(J:List Str),J≠[]->(∀w∈J,32 ∉ w.cps.toList)->∀(a:Nat) (n:List Nat) (f:Nat),x.cps.toList.drop a=(Str.join sp J).cps.toList->ChainG x sp x.length a n f->(∀k,f<=k->¬At x sp x.length k)->partsFrom x sp.length a n=J
 | [],h,_,_,_,_,_,_,_=>absurd rfl h
 | [w],_,hw,a,n,f,hd,hc,hf=>by
  have hd':x.cps.toList.drop a=w.cps.toList:=hd
  cases n with
  | nil=>
   show [strSub x a x.length]=[w]
   congr 1
   refine jV ?_
   rw [strSub_toList,hd',List.take_of_length_le]
   rw [<-hd',yM,bN]
   exact zC _
  | cons c r=>
   exfalso
   obtain ⟨h1,h2,_,_⟩:=hc
   obtain ⟨t,B⟩:=Z3 D h2
   refine hw w zn ?_
   rw [<-hd']
   have:x.cps.toList.drop c=(x.cps.toList.drop a).drop (c - a):=by rw [List.drop_drop];congr 1;omega
   rw [this] at B
   exact List.mem_of_mem_drop (by rw [B];exact zn)
 | w::v::r,_,hw,a,n,f,hd,hc,hf=>by
  rw [gM,D] at hd
  have dp:x.cps.toList.drop (a+w.length)=(32::sr)++(Str.join sp (v::r)).cps.toList:=by
   rw [<-List.drop_drop,hd,List.drop_left' (bN w)]
  have sn:sp.length=sr.length+1:=by rw [<-bN,D];rfl
  have ln:a+w.length+(sr.length+1)<=x.length:=by
   have h1:=zV List.length dp
   rw [yM,bN,zt] at h1
   simp only [zJ] at h1
   omega
  have I:At x sp x.length (a+w.length):=by
   refine ⟨by rw [sn];exact ln,?_⟩
   rw [subAt_eq,D,sn,dp,List.take_left' (by simp)]
   exact beq_self_eq_true _
  cases n with
  | nil=>
   have e:f=a:=hc
   exact absurd I (hf _ (by omega))
  | cons c rc=>
   obtain ⟨h1,h2,h3,h4⟩:=hc
   have ec:c=a+w.length:=by
    by_cases z:c<a+w.length
    ·exfalso
     obtain ⟨t,B⟩:=Z3 D h2
     refine hw w zn ?_
     have e1:x.cps.toList.drop c=(x.cps.toList.drop a).drop (c - a):=by rw [List.drop_drop];congr 1;omega
     rw [e1,hd,List.drop_append_of_le_length (by rw [bN];omega)] at B
     have Y:w.cps.toList.drop (c - a)≠[]:=λO=>by
      have:=zV List.length O
      rw [yM,bN] at this
      simp at this
      omega
     cases U:w.cps.toList.drop (c - a) with
     | nil=>exact absurd U Y
     | cons y ys=>
      rw [U] at B
      have:y=32:=by
       have:=zV List.head? B
       simpa using this
      subst this
      exact List.mem_of_mem_drop (by rw [U];exact zn)
    ·by_cases O:a+w.length<c
     ·exact absurd I (h3 _ (by omega) O)
     ·omega
   subst ec
   show strSub x a (a+w.length)::partsFrom x sp.length (a+w.length+sp.length) rc=w::v::r
   congr 1
   ·refine jV ?_
    rw [strSub_toList,hd,Nat.add_sub_cancel_left,<-bN w,List.take_left]
   ·refine Fb D (v::r) (by simp) (λu Z=>hw u (zr _ Z)) _ rc f ?_ h4 hf
    rw [<-List.drop_drop,dp,sn,List.drop_left' (by simp)]
theorem WQ {sp:Str} (n:Builtin.Str.strKind sp=1) (x:Str):¬Builtin.Str.strKind x<Builtin.Str.strKind sp:=by
 have:=n
 rw [this]
 unfold Builtin.Str.strKind
 split
 ·omega
 ·split<;>omega
theorem Fd {sp:Str} {sr:List Nat} (B:sp.cps.toList=32::sr) (I:Builtin.Str.strKind sp=1) {ws:List Str} (h:ws≠[]) (D:∀w∈ws,32 ∉ w.cps.toList):Txt.split (Str.join sp ws) sp=ws:=by
 have one:∀w,ws=[w]->[Str.join sp ws]=ws:=λw e=>by subst e;rfl
 unfold Txt.split
 by_cases h1:(Str.join sp ws).length<sp.length
 ·rw [zo (by simp [h1])]
  match ws,h with
  | [w],_=>rfl
  | w::v::r,_=>
   exfalso
   have:=zV List.length (gM sp w v r)
   rw [bN,zt,zt,bN sp] at this
   omega
 ·rw [zi (by simp [h1,WQ I])]
  obtain ⟨f,J,hf⟩:=occ_tight (Str.join sp ws) sp (by rw [<-bN,B];simp)
  have n:=Fb B ws h D 0 _ f (by rw [List.drop_zero]) J hf
  split
  ·rename_i he
   rw [List.isEmpty_iff.mp he] at n
   have z:[strSub (Str.join sp ws) 0 (Str.join sp ws).length]=ws:=n
   rw [sub_whole] at z
   exact z
  ·rw [partsBetween_eq];exact n
theorem split1 {ws:List Str} (h:ws≠[]) (n:∀w∈ws,32 ∉ w.cps.toList):Txt.split (Str.join dw ws) dw=ws:=Fd (sr:=[]) (by decide) (by decide) h n
theorem p_ {sp:Str}:∀{ws:List Str} {w:Str},w∈ws->(∀c∈w.cps.toList,c∈(Str.join sp ws).cps.toList)/\w.length+ws.length * sp.length<=(Str.join sp ws).length+sp.length
 | [v],w,h=>by
  rw [zD] at h
  subst h
  exact ⟨λc n=>n,by show w.length+1 * sp.length<=w.length+sp.length;omega⟩
 | v::u::r,w,h=>by
  have e:(Str.join sp (v::u::r)).cps.toList=v.cps.toList++(sp.cps.toList++(Str.join sp (u::r)).cps.toList):=by
   show (v++sp++Str.join sp (u::r)).cps.toList=_
   rw [fJ,fJ,yt]
  have I:=zV List.length e
  rw [bN,zt,zt,bN,bN,bN] at I
  have B:∀k:Nat,(k+1+1) * sp.length=(k+1) * sp.length+sp.length:=λk=>Nat.succ_mul _ _
  rcases zu.mp h with rfl|h
  ·refine ⟨λc n=>?_,?_⟩
   ·rw [e];exact zT.mpr (.inl n)
   ·obtain ⟨_,z⟩:=p_ (sp:=sp) (ws:=u::r) zn
    simp only [zJ] at z ⊢
    rw [B];omega
  ·obtain ⟨D,z⟩:=p_ (ws:=u::r) h
   refine ⟨λc n=>?_,?_⟩
   ·rw [e];exact zT.mpr (.inr (zT.mpr (.inr (D c n))))
   ·simp only [zJ] at z ⊢
    rw [B];omega
theorem Sw:dw.length=1:=by decide
theorem Z4 {t w:Str} (z:t.cps.all (·<128)=true) (n:w∈Txt.split t dw):w.cps.all (·<128)=true/\w.length<=t.length:=by
 have j:=p_ (sp:=dw) n
 rw [join_split,Sw] at j
 have:1<=(Txt.split t dw).length:=List.length_pos_iff.mpr (List.ne_nil_of_mem n)
 refine ⟨?_,by omega⟩
 rw [<-xq,yF] at z ⊢
 exact λc B=>z c (j.1 c B)
theorem WR (t:Str):(Txt.split t dw).length<=t.length+1:=by
 cases h:Txt.split t dw with
 | nil=>simp
 | cons w r=>
  have j:=(p_ (sp:=dw) (show w∈Txt.split t dw by rw [h];exact zn)).2
  rw [join_split,Sw,h] at j
  omega
theorem jW:∀{z:List Str} {bs ns:List Int},nums z bs=some ns->z.length=bs.length/\ns.length=bs.length
 | [],[],ns,h=>by cases h;exact ⟨rfl,rfl⟩
 | [],_::_,ns,h=>by cases h
 | _::_,[],ns,h=>by cases h
 | w::z,b::bs,ns,h=>by
  unfold nums at h
  cases h1:num w b with
  | none=>rw [h1] at h;cases h
  | some n=>
   cases h2:nums z bs with
   | none=>rw [h1,h2] at h;cases h
   | some r=>
    rw [h1,h2] at h;cases h
    obtain ⟨D,B⟩:=jW h2
    exact ⟨by simp [D],by simp [B]⟩
theorem gZ:∀{z:List Str} {bs ns:List Int},nums z bs=some ns->∀i,i<z.length->num (z.getD i Str.empty) (bs.getD i 0)=some (ns.getD i 0)
 | [],[],ns,h,i,hi=>by simp at hi
 | [],_::_,ns,h,i,hi=>by cases h
 | _::_,[],ns,h,i,hi=>by cases h
 | w::z,b::bs,ns,h,i,hi=>by
  unfold nums at h
  cases h1:num w b with
  | none=>rw [h1] at h;cases h
  | some n=>
   cases h2:nums z bs with
   | none=>rw [h1,h2] at h;cases h
   | some r=>
    rw [h1,h2] at h;cases h
    cases i with
    | zero=>exact h1
    | succ i=>exact gZ h2 i (by simpa using hi)
inductive Row:Str->List Int->Prop
 | Sx {n:Int}:0<=n->n<=10 ^ 40->Row "base" [n]
 | m9 {n:Int}:0<=n->n<=10 ^ 40->Row "figures" [n]
 | is_ {n:Int}:0<=n->n<=10 ^ 40->Row "is" [n]
 | vH {n:Int}:0<=n->n<=10 ^ 40->Row "below" [n]
 | vI {n:Int}:0<=n->n<=10 ^ 40->Row "above" [n]
 | vJ {n:Int}:0<=n->n<=10 ^ 40->Row "count" [n]
 | at_ {n:Int}:0<=n->n<=10 ^ 20->Row "at" [n]
 | vK {n:Int}:0<=n->n<=10 ^ 40->Row "place" [n]
 | QF {n:Int}:0<=n->n<=10 ^ 40->Row "few" [n]
 | two_ {n:Int}:0<=n->n<=10 ^ 6->Row "two" [n]
 | qb {n:Int}:0<=n->n<=10 ^ 6->Row "fewest" [n]
 | Fe {n:Int} {k:Nat}:0<=n->n<=500->k<=12->Row "ways" [n,k]
 | L_ {n pl:Int} {k:Nat}:0<=n->n<=500->k<=12->0<=pl->pl<=10 ^ 40->Row "way" [n,k,pl]
theorem jX {ws:List Str} {bd:Int} {ns:List Int} (h:nums ws [bd]=some ns):∃n,ns=[n]/\0<=n/\n<=bd/\ws=[tx n]:=by
 obtain ⟨z,D⟩:=jW h
 have a:=gZ h 0 (by rw [z];simp)
 match ws,ns,z,D with
 | [w],[n],_,_=>
  obtain ⟨B,_,n2,e⟩:=gK a
  exact ⟨n,rfl,B,n2,by rw [show w=tx n from e]⟩
theorem Ma {w f:Str} {ns:List Int} (h:rowOf w=some (f,ns)):Row f ns:=by
 unfold rowOf at h
 split at h
 ·cases h
 ·rename_i g os hs
  cases B:BT.lookup g with
  | none=>rw [B] at h;cases h
  | some bs=>
   rw [B] at h
   simp only [Option.bind_some] at h
   cases I:nums os bs with
   | none=>rw [I] at h;cases h
   | some ms=>
    rw [I] at h
    cases (h)
    have one:∀{x:Str} {v:List Int} {r:List (Str × List Int)},List.lookup f ((x,v)::r)=some bs->(f=x/\v=bs)\/List.lookup f r=some bs:=λ{x v r} h=>by
     rw [y9] at h
     by_cases z:f=x
     ·subst z;simp at h;exact .inl ⟨rfl,h⟩
     ·have:(f == x)=false:=by simpa using z
      rw [this] at h;exact .inr h
    unfold BT at B
    rcases one B with ⟨rfl,rfl⟩|B
    ·obtain ⟨n,rfl,D,n1,_⟩:=jX I
     exact .Sx D n1
    rcases one B with ⟨rfl,rfl⟩|B
    ·obtain ⟨n,rfl,D,n1,_⟩:=jX I
     exact .m9 D n1
    rcases one B with ⟨rfl,rfl⟩|B
    ·obtain ⟨n,rfl,D,n1,_⟩:=jX I
     exact .is_ D n1
    rcases one B with ⟨rfl,rfl⟩|B
    ·obtain ⟨n,rfl,D,n1,_⟩:=jX I
     exact .vH D n1
    rcases one B with ⟨rfl,rfl⟩|B
    ·obtain ⟨n,rfl,D,n1,_⟩:=jX I
     exact .vI D n1
    rcases one B with ⟨rfl,rfl⟩|B
    ·obtain ⟨n,rfl,D,n1,_⟩:=jX I
     exact .vJ D n1
    rcases one B with ⟨rfl,rfl⟩|B
    ·obtain ⟨n,rfl,D,n1,_⟩:=jX I
     exact .at_ D n1
    rcases one B with ⟨rfl,rfl⟩|B
    ·obtain ⟨n,rfl,D,n1,_⟩:=jX I
     exact .vK D n1
    rcases one B with ⟨rfl,rfl⟩|B
    ·obtain ⟨n,rfl,D,n1,_⟩:=jX I
     exact .QF D n1
    rcases one B with ⟨rfl,rfl⟩|B
    ·obtain ⟨n,rfl,D,n1,_⟩:=jX I
     exact .two_ D n1
    rcases one B with ⟨rfl,rfl⟩|B
    ·obtain ⟨n,rfl,D,n1,_⟩:=jX I
     exact .qb D n1
    rcases one B with ⟨rfl,rfl⟩|B
    ·obtain ⟨J,O⟩:=jW I
     match ns,O with
     | [n,k],_=>
      obtain ⟨D,_,n1,_⟩:=gK (gZ I 0 (by rw [J];simp))
      obtain ⟨k0,_,k1,_⟩:=gK (gZ I 1 (by rw [J];simp))
      have k0:0<=k:=k0
      have k1:k<=12:=k1
      obtain ⟨m,rfl⟩:=yE k0
      exact .Fe D n1 (by omega)
    rcases one B with ⟨rfl,rfl⟩|B
    ·obtain ⟨J,O⟩:=jW I
     match ns,O with
     | [n,k,pl],_=>
      obtain ⟨D,_,n1,_⟩:=gK (gZ I 0 (by rw [J];simp))
      obtain ⟨k0,_,k1,_⟩:=gK (gZ I 1 (by rw [J];simp))
      obtain ⟨p0,_,U,_⟩:=gK (gZ I 2 (by rw [J];simp))
      have k0:0<=k:=k0
      have k1:k<=12:=k1
      obtain ⟨m,rfl⟩:=yE k0
      exact .L_ D n1 (by omega) p0 U
    cases B
end TX
namespace M
structure CW (p:Int) (ps:List Int) (N K i:Nat) (ms:List (List Int)):Prop where
 p8:Shape N K ms
 val:∀s t:Nat,s<=K->t+K<=N+s->at2 ms s t=some (cg true (if s+i<=K then p::ps else ps) s t)
structure vL (p:Int) (ps:List Int) (N K i:Nat) (c:Int) (ms:List (List Int)):Prop where
 p8:Shape N K ms
 val:∀s t:Nat,s<=K->t+K<=N+s->at2 ms s t=some (cg true (if s<=i\/(s=i+1/\c<=(t:Int)) then p::ps else ps) s t)
section
variable {p:Int} {ps:List Int} {N K i:Nat} {c:Int} {ms:List (List Int)}
theorem Tab.WT (h:Tab (p::ps) N K ms):CW p ps N K 0 ms:=⟨h.p8,λs t h1 h2=>by rw [h.val s t h1 h2,zo (by omega)]⟩
theorem CW.fin (h:CW p ps N K K ms):Tab ps N K ms:=⟨h.p8,λs t h1 h2=>by
 rw [h.val s t h1 h2]
 by_cases z:s+K<=K
 ·have:s=0:=by omega
  subst this
  rw [zo z,Ai,Ai]
 ·rw [zi z]⟩
theorem CW.go {j:Nat} (n:0<p) (h:CW p ps N K j ms) (B:i+1+j=K):vL p ps N K i (p+(i:Int)) ms:=⟨h.p8,λs t h1 h2=>by
 rw [h.val s t h1 h2]
 by_cases z:s<=i
 ·rw [zo (by omega),zo (.inl z)]
 ·by_cases y:s=i+1
  ·subst y
   rw [zo (by omega)]
   by_cases x:p+(i:Int)<=(t:Int)
   ·rw [zo (.inr ⟨rfl,x⟩)]
   ·rw [zi (by omega),Sh n (by omega)]
  ·rw [zi (by omega),zi (by omega)]⟩
theorem vL.read (h:vL p ps N K i c ms) (B:i+1<=K) {t0:Nat} (n:c=(t0:Int)) (D:0<p) (I:p+(i:Int)<=c) (z:t0+K<=N+(i+1)) :
  at2 ms (i+1) t0=some (cg true (p::ps) (i+1) c)/\at2 ms i (c - p).toNat=some (cg true (p::ps) i (c - p)):=by
 subst n
 refine ⟨?_,?_⟩
 ·rw [h.val (i+1) t0 B z,zo (.inr ⟨rfl,by omega⟩)]
 ·have e:(((t0:Int) - p).toNat:Int)=(t0:Int) - p:=by omega
  rw [h.val i _ (by omega) (by omega),zo (.inl (zC _)),e]
theorem vL.step {r:List Int} {t0:Nat} {v:Int} (B:0<p) (h:vL p ps N K i c ms) (Y:i+1<=K) (O:c=(t0:Int)) (J:p<=c) (U:t0+K<=N+(i+1)) (n:ms[i+1]? = some r) (D:v=cg true (p::ps) (i+1) c - cg true (p::ps) i (c - p)) :
  vL p ps N K i (c+1) (ms.set (i+1) (r.set t0 v)):=by
 subst O
 have I:t0<r.length:=by have:=h.p8.row _ r n;omega
 refine ⟨h.p8.set n,λs t h1 h2=>?_⟩
 rw [Ex n I]
 by_cases z:s=i+1/\t=t0
 ·obtain ⟨rfl,rfl⟩:=z
  rw [zo ⟨rfl,rfl⟩,zi (by omega),D,vz B J,Int.add_sub_cancel]
 ·rw [zi z,h.val s t h1 h2]
  by_cases y:s<=i\/(s=i+1/\(t0:Int)<=(t:Int))
  ·rw [zo y,zo (by omega)]
  ·rw [zi y,zi (by omega)]
theorem vL.fin {j:Nat} (h:vL p ps N K i c ms) (I:i+(j+1)=K) (B:0<p) (n:∀x∈ps,x<=p) (D:∀t:Nat,t+K<=N+(i+1)->c<=(t:Int)->p * ((i:Int)+1)<(t:Int)):CW p ps N K (j+1) ms:=⟨h.p8,λs t h1 h2=>by
 rw [h.val s t h1 h2]
 by_cases z:s<=i
 ·rw [zo (.inl z),zo (by omega)]
 ·by_cases y:s=i+1/\c<=(t:Int)
  ·obtain ⟨rfl,y⟩:=y
   rw [zo (.inr ⟨rfl,y⟩),zi (by omega),Sq B n (D t h2 y)]
  ·rw [zi (by omega),zi (by omega)]⟩
theorem Tab.less {z n:Nat} (h:Tab ps N K ms) (hN:z+K<=N+n) (B:n<=K):Tab ps z n ms:=⟨⟨by have:=h.p8.len;omega,λs r e=>by have:=h.p8.row s r e;omega⟩,λs t h1 h2=>h.val s t (by omega) (by omega)⟩
end
def cf (p:Int) (ps:List Int) (K:Nat) (N:Int):Int:=if K=0\/N<p then 0 else cg true (p::ps) (K - 1) (N - p)
theorem Mf {p:Int} {ps:List Int} {K:Nat} {N:Int} (n:0<p):cg true (p::ps) K N=cg true ps K N+cf p ps K N:=by
 rw [dh]
 unfold cf
 by_cases h:K=0\/N<p
 ·rw [zo h,zi (λz=>by have:=z.2.2 rfl;omega)]
 ·rw [zi h,zo ⟨n,by omega,λ_=>by omega⟩]
def Z5 (p:Int) (ps:List Int) (r:Nat->Int->Int->List Int):Nat->Int->Int->List Int
 | 0,N,pl=>r 0 N (pl - cf p ps 0 N)
 | K+1,N,pl=>if pl<cf p ps (K+1) N then p::Z5 p ps r K (N - p) pl else r (K+1) N (pl - cf p ps (K+1) N)
def nj:List Int->Nat->Int->Int->List Int
 | []=>λ_ _ _=>[]
 | p::ps=>Z5 p ps (nj ps)
theorem qd {p:Int} {ps:List Int} {K:Nat} {N pl:Int} (h:0<K/\pl<cf p ps K N):nj (p::ps) K N pl=p::nj (p::ps) (K - 1) (N - p) pl:=by
 cases K with
 | zero=>exact absurd h.1 (by omega)
 | succ K=>exact zo h.2
theorem vM {p:Int} {ps:List Int} {K:Nat} {N pl:Int} (h:¬(0<K/\pl<cf p ps K N)):nj (p::ps) K N pl=nj ps K N (pl - cf p ps K N):=by
 cases K with
 | zero=>rfl
 | succ K=>exact zi (λz=>h ⟨by omega,z⟩)
theorem vN {K:Nat} {N pl:Int}:nj [] K N pl=[]:=rfl
theorem AL.uniq {b n m m':Int} (h:AL b n m) (h':AL b n m'):m=m':=by
 have:=h.bot m' h'.mp h'.le
 have:=h'.bot m h.mp h.le
 omega
theorem GR (b:Int):∀{m n:Nat},m<=n->oV b m<=oV b n:=by
 intro m n h
 induction h with
 | refl=>exact yn _
 | step _ ih=>
  refine yz ih ?_
  show _<=oV b _+_
  split<;>omega
theorem Sy {b m m':Int} (n:2<=b) (h:Mp b m) (h':Mp b m') (z:m<m'):pl b m<pl b m':=by
 have e1:=lV n h.1 (AM.self h)
 have e2:=lV n h'.1 (AM.self h')
 rw [e1,e2]
 unfold cnt
 obtain ⟨k,B⟩:∃k,m'.toNat=k+1:=⟨m'.toNat - 1,by have:=h.1;omega⟩
 have q:=GR b (show m.toNat<=k by omega)
 rw [B]
 show _<oV b k+_
 have e:((k:Int)+1)=m':=by have:=h'.1;omega
 rw [e,h'.2]
 simp;omega
theorem CZ {b m m':Int} (n:2<=b) (h:Mp b m) (h':Mp b m') (e:pl b m=pl b m'):m=m':=by
 by_cases z:m<m'
 ·have:=Sy n h h' z;omega
 ·by_cases B:m'<m
  ·have:=Sy n h' h B;omega
  ·omega
theorem Gt.uniq {b:Int}:∀{m:Nat} {n:Int} {L B:List Int},Gt b m n L->Gt b m n B->L=B
 | _,_,_,_,.nil,.nil=>rfl
 | _,_,_,_,.cons (p:=p) p1 pm g no,.cons (p:=p') p1' pm' g' no'=>by
  have e:p=p':=by
   by_cases z:p<p'
   ·exact absurd g'.way.sm (no p' z pm')
   ·by_cases D:p'<p
    ·exact absurd g.way.sm (no' p D pm)
    ·omega
  subst e
  rw [g.uniq g']
noncomputable def the {α:Type} [Inhabited α] (P:α->Prop):α:=Classical.epsilon P
theorem eH {α:Type} [Inhabited α] {P:α->Prop} {m:α} (h:P m) (u:∀m',P m'->m'=m):the P=m:=u _ (Classical.epsilon_spec ⟨m,h⟩)
theorem C_:∀(ps:List Int) (K:Nat) (N pl:Int),(∀x∈nj ps K N pl,x∈ps)/\(nj ps K N pl).length<=K:=by
 intro ps
 induction ps with
 | nil=>intro K N pl;rw [vN];exact ⟨λ_ h=>h,yN _⟩
 | cons p ps ihp=>
  intro K N pl
  have z:∀K N pl,¬(0<K/\pl<cf p ps K N)->(∀x∈nj (p::ps) K N pl,x∈p::ps)/\(nj (p::ps) K N pl).length<=K:=λK N pl h=>by
   rw [vM h]
   have:=ihp K N (pl - cf p ps K N)
   exact ⟨λx n=>zr _ (this.1 x n),this.2⟩
  induction K generalizing N with
  | zero=>exact z 0 N pl λh=>absurd h.1 (by decide)
  | succ K ih=>
   by_cases h:0<K+1/\pl<cf p ps (K+1) N
   ·rw [qd h,yh]
    have:=ih (N - p)
    exact ⟨λx n=>by
     rcases zu.mp n with rfl|n
     ·exact zn
     ·exact this.1 x n,by rw [zJ];omega⟩
   ·exact z (K+1) N pl h
theorem vO (b:Int):∀(m:Nat),∀x∈(iV b m).reverse,x<=(m:Int)
 | 0,x,h=>by simp [iV] at h
 | m+1,x,h=>by
  rw [zY] at h
  by_cases c:bG b ((m:Int)+1)=true
  ·rw [jl c] at h
   rcases zT.mp h with h|h
   ·have:=vO b m x (zY.mpr h);omega
   ·have:=zD.mp h;omega
  ·rw [jm c] at h
   have:=vO b m x (zY.mpr h);omega
theorem qe {b:Int} {m:Nat} (c:bG b ((m:Int)+1)=true):(iV b (m+1)).reverse=((m:Int)+1)::(iV b m).reverse:=by rw [jl c,yJ];rfl
theorem Dc (b:Int) {x:Int}:∀m:Nat,cg true (iV b m).reverse 1 x=if 1<=x/\x<=(m:Int)/\bG b x=true then 1 else 0
 | 0=>by
  rw [show (iV b 0).reverse=[] by rw [iV];rfl,eF,zi (λz=>absurd (z.2 rfl) (by decide)),zi (λz=>by omega)]
 | m+1=>by
  by_cases c:bG b ((m:Int)+1)=true
  ·rw [qe c,dh,Dc b m,Nat.sub_self,Ai]
   by_cases z:x=(m:Int)+1
   ·rw [zi (λq=>by omega),zo ⟨by omega,by omega,λ_=>by decide⟩,zo (by omega),zo ⟨by omega,by omega,z▸c⟩];rfl
   ·by_cases y:1<=x/\x<=(m:Int)/\bG b x=true
    ·rw [zo y,zi (λq=>by omega),zo ⟨y.1,by omega,y.2.2⟩];rfl
    ·rw [zi y,zi (show ¬(1<=x/\x<=((m+1:Nat):Int)/\bG b x=true) from λq=>y ⟨q.1,by omega,q.2.2⟩),zi (show ¬x - ((m:Int)+1)=0 by omega)]
     split<;>rfl
  ·rw [jm c,Dc b m]
   by_cases y:1<=x/\x<=(m:Int)/\bG b x=true
   ·rw [zo y,zo ⟨y.1,by omega,y.2.2⟩]
   ·rw [zi y,zi (λq=>y ⟨q.1,?_,q.2.2⟩)]
    by_cases z:x=(m:Int)+1
    ·rw [z] at q;exact absurd q.2.2 c
    ·omega
theorem Mg (b:Int) {N m:Nat} (n:m<N):cg true (iV b (m+1)).reverse 2 (N:Int)=cg true (iV b m).reverse 2 (N:Int)+if bG b ((m:Int)+1)=true/\1<=(N:Int) - ((m:Int)+1)/\(N:Int) - ((m:Int)+1)<=(m:Int)+1/\bG b ((N:Int) - ((m:Int)+1))=true then 1 else 0:=by
 by_cases c:bG b ((m:Int)+1)=true
 ·have h1:=Dc b (x:=(N:Int) - ((m:Int)+1)) (m+1)
  rw [qe c] at h1 ⊢
  rw [dh,zo ⟨Int.ofNat_lt.mpr (Nat.succ_pos m),Int.ofNat_le.mpr n,λ_=>by decide⟩,h1]
  congr 1
  by_cases y:1<=(N:Int) - ((m:Int)+1)/\(N:Int) - ((m:Int)+1)<=((m+1:Nat):Int)/\bG b ((N:Int) - ((m:Int)+1))=true
  ·rw [zo y,zo ⟨c,y⟩]
  ·rw [zi y,zi (λq=>y q.2)]
 ·rw [jm c,zi (λz=>c z.1),yK]
theorem WW (b:Int) (N t:Nat):(((iV b (t+1)).filter λx=>bG b ((N:Int) - x)).length:Int)=(((iV b t).filter λx=>bG b ((N:Int) - x)).length:Int)+if bG b ((t:Int)+1)=true/\bG b ((N:Int) - ((t:Int)+1))=true then 1 else 0:=by
 by_cases c:bG b ((t:Int)+1)=true
 ·rw [jl c,List.filter_append,zt]
  by_cases d:bG b ((N:Int) - ((t:Int)+1))=true
  ·rw [zo ⟨c,d⟩,List.filter_cons_of_pos (p:=λx=>bG b ((N:Int) - x)) d];rfl
  ·rw [zi (λz=>d z.2),List.filter_cons_of_neg (p:=λx=>bG b ((N:Int) - x)) d];rfl
 ·rw [jm c,zi (λz=>c z.1),yK]
theorem two_key (b:Int) {N h:Nat} (z:2 * h<=N) (n:N<=2 * h+1):∀i t u:Nat,t+i=h->t+u+1=N->(((iV b h).filter λx=>bG b ((N:Int) - x)).length:Int)=(((iV b t).filter λx=>bG b ((N:Int) - x)).length:Int)+cg true (iV b u).reverse 2 (N:Int)
 | 0,t,u,e,f=>by
  obtain rfl:t=h:=e
  rw [pZ (m:=(u:Int)) (Int.natCast_nonneg u) _ (vO b u) 2 _ (by omega),yK]
 | i+1,t,u,e,f=>by
  obtain ⟨v,rfl⟩:∃v,u=v+1:=⟨u - 1,by omega⟩
  have a1:(v:Int)+1=(N:Int) - ((t:Int)+1):=by omega
  have a2:(N:Int) - ((v:Int)+1)=(t:Int)+1:=by omega
  have a3:(1:Int)<=(t:Int)+1/\(t:Int)+1<=(v:Int)+1:=by omega
  rw [two_key b z n i (t+1) v (by omega) (by omega),WW,Mg b (m:=v) (by omega),a2,Int.add_assoc,xh (cg true _ _ _)]
  congr 2
  by_cases y:bG b ((t:Int)+1)=true/\bG b ((N:Int) - ((t:Int)+1))=true
  ·rw [zo y,zo ⟨a1▸y.2,a3.1,a3.2,y.1⟩]
  ·rw [zi y,zi (λq=>y ⟨q.2.2.2,a1▸q.1⟩)]
theorem tw_cg {b n:Int} (B:0<=n):((tw b n).length:Int)=cg true (aX b n).reverse 2 n:=by
 obtain ⟨N,rfl⟩:=yE B
 unfold tw aX
 rw [show ((N:Int) / 2).toNat=N / 2 by omega,show ((N:Int)).toNat=N from rfl]
 cases N with
 | zero=>rw [show iV b 0=[] from rfl,List.reverse_nil,eF,zi (λz=>absurd (z.2 rfl) (by decide))];rfl
 | succ N=>
  rw [two_key b (N:=N+1) (by omega) (by omega) ((N+1) / 2) 0 N (by omega) (by omega),Mg b (m:=N) (by omega),zi (λz=>by omega),yK,show iV b 0=[] from rfl]
  exact xC _
def alm (f:Nat->Nat->Nat):Nat->Nat->Nat
 | 0,_=>0
 | m+1,n=>(if m+1<=n then f (m+1) (n - (m+1)) else 0)+alm f m n
def al:Nat->Nat->Nat->Nat
 | 0=>λ_ n=>if n=0 then 1 else 0
 | k+1=>λm n=>if n=0 then 1 else alm (al k) m n
theorem Z6 {b n x y:Int} (h:AM b n x) (h':AL b n y) (lt:x<y):Nx b x y:=⟨h'.mp,lt,λk B D=>by
 by_cases z:n<=k
 ·exact h'.bot k B z
 ·have:=h.top k B (by omega);omega⟩
theorem Z7 {b n:Int} (D:2<=b) (J:0<=n):∃m,AL b n m:=by
 have h:=iU D (ln b n)
 have lt:=gH D J
 have e:(((b ^ (ln b n) - 1).toNat:Nat):Int)=b ^ (ln b n) - 1:=by omega
 obtain ⟨k,_,⟨k1,k2⟩,k3⟩:=least (P:=λk=>Mp b (k:Int)/\n<=(k:Int)) (b ^ (ln b n) - 1).toNat ⟨by rw [e];exact h,by rw [e];omega⟩
 refine ⟨k,k1,k2,λj B O=>?_⟩
 have j0:=B.1
 have I:((j.toNat:Nat):Int)=j:=by omega
 by_cases z:j.toNat<k
 ·exact absurd ⟨by rw [I];exact B,by rw [I];exact O⟩ (k3 _ z)
 ·omega
theorem SJ {b:Int} (D:2<=b) {n:Int} (I:0<=n):∃L,Fw b n L:=by
 have:∀k:Nat,∀n:Int,0<=n->n<=k->∃L,Fw b n L:=λk=>by
  induction k with
  | zero=>intro n h0 h1;rw [show n=0 by omega];exact ⟨[],.nil⟩
  | succ k ih=>
   intro n h0 h1
   by_cases z:n=0
   ·rw [z];exact ⟨[],.nil⟩
   ·obtain ⟨m,B⟩:=uf D n.toNat
    rw [show ((n.toNat:Nat):Int)=n by omega] at B
    have J:=B.one D (by omega)
    have:=B.le
    obtain ⟨L,f⟩:=ih (n - m) (by omega) (by omega)
    exact ⟨m::L,.cons (by omega) B f⟩
 exact this n.toNat n I (by omega)
theorem Sm.gt {b:Int}:∀{m:Nat} {n:Int},Sm b m n->∃L,Gt b m n L
 | 0,n,h=>by have:=h.none;subst this;exact ⟨[],.nil⟩
 | m+1,n,h=>by
  -- the greatest part that leaves a sum
  have ex:∃k:Nat,∃p:Int,p=n - (k:Int)/\1<=p/\bG b p=true/\Sm b m (n - p):=by
   obtain ⟨p,h1,h2,J,U⟩:=h.cut
   exact ⟨(n - p).toNat,p,by omega,h1,h2,U⟩
  obtain ⟨k0,D⟩:=ex
  obtain ⟨k,_,⟨p,e,h1,h2,J⟩,z⟩:=least (P:=λ(k:Nat)=>∃p:Int,p=n - (k:Int)/\1<=p/\bG b p=true/\Sm b m (n - p)) k0 D
  obtain ⟨L,g⟩:=Sm.gt J
  refine ⟨p::L,.cons h1 h2 g λq Y O I=>?_⟩
  have:=I.nn
  exact z (n - q).toNat (by omega) ⟨q,by omega,by omega,O,I⟩
theorem Z8 {b n:Int} (B:2<=b) (z:0<=n):∃L,Gt b (nd b n) n L:=(kj B z).1.gt
theorem pC:∀{a b:List Int},a.Perm b->a.Pairwise (·<=·)->b.Pairwise (·<=·)->a=b
 | [],b,h,_,_=>by rw [List.nil_perm] at h;exact h.symm
 | x::a,[],h,_,_=>by have:=h.length_eq;simp at this
 | x::a,y::b,h,h1,h2=>by
  rw [List.pairwise_cons] at h1 h2
  have e:x=y:=by
   have z:x∈y::b:=h.mem_iff.mp zn
   have n:y∈x::a:=h.mem_iff.mpr zn
   have D:y<=x:=by
    rcases zu.mp z with e|m
    ·omega
    ·exact h2.1 x m
   have B:x<=y:=by
    rcases zu.mp n with e|m
    ·omega
    ·exact h1.1 y m
   omega
  subst e
  rw [pC (List.perm_cons x |>.mp h) h1.2 h2.2]
theorem Fw.sum {b n:Int} {L:List Int} (h:Fw b n L):L.sum=n:=by
 induction h with
 | nil=>rfl
 | cons _ _ _ ih=>rw [yX,ih];omega
theorem Mh {b n x y:Int} (z:0<=n) (h:AM b n x) (h':AL b n y):x=y ↔ bG b n=true:=by
 have D:=h.le
 have B:=h'.le
 constructor
 ·intro e
  have:n=x:=by omega
  rw [this];exact h.mp.2
 ·intro e
  have:=h.top n ⟨z,e⟩ (yn _)
  have:=h'.bot n ⟨z,e⟩ (yn _)
  omega
theorem Mi {b:Int}:∀(ps:List Int),(∀x∈ps,1<=x/\bG b x=true)->∀(k:Nat) (n:Int),0<cg true ps k n->Sm b k n
 | [],_,k,n,h=>by
  rw [eF] at h
  split at h
  ·rename_i z
   rw [z.1,z.2 rfl];exact .zero
  ·exact absurd h (by decide)
 | p::ps,hp,k,n,h=>by
  have B:=hp p zn
  refine rK (b:=true) (p:=p) (ps:=ps) (Q:=λk n=>0<cg true (p::ps) k n->Sm b k n) (λk n D h=>?_) k n h
  rw [dh] at h
  by_cases z:0<cg true ps k n
  ·exact Mi ps (λx I=>hp x (zr _ I)) k n z
  ·by_cases c:0<p/\p<=n/\(true=true->0<k)
   ·rw [zo c] at h
    have:=Sm.add (D c.1 c.2.1 c.2.2 (by omega)) B.1 B.2
    rw [show k - 1+1=k by have:=c.2.2 rfl;omega,Int.sub_add_cancel] at this
    exact this
   ·rw [zi c] at h;omega
theorem QH:∀(ps:List Int),(∀x∈ps,0<x)->∀(K:Nat) (N pl:Int),0<=pl->pl<cg true ps K N->(nj ps K N pl).length=K:=by
 intro ps
 induction ps with
 | nil=>
  intro _ K N pl h0 h1
  rw [eF] at h1
  rw [vN]
  split at h1
  ·rename_i z;exact (z.2 rfl).symm
  ·omega
 | cons p ps ihp=>
  intro B K N pl h0 h1
  have p0:=B p zn
  have n:∀K N,¬(0<K/\pl<cf p ps K N)->pl<cg true (p::ps) K N->(nj (p::ps) K N pl).length=K:=λK N h g=>by
   rw [vM h]
   rw [Mf p0] at g
   refine ihp (λx D=>B x (zr _ D)) K N _ ?_ (by omega)
   by_cases z:0<K
   ·omega
   ·have:cf p ps K N=0:=by unfold cf;rw [zo (.inl (by omega))]
    omega
  induction K generalizing N with
  | zero=>exact n 0 N (λz=>absurd z.1 (by decide)) h1
  | succ K ih=>
   by_cases h:0<K+1/\pl<cf p ps (K+1) N
   ·rw [qd h,show K+1 - 1=K from rfl,zJ]
    have h2:=h.2
    unfold cf at h2
    split at h2
    ·omega
    ·rw [ih (N - p) h2]
   ·exact n (K+1) N h h1
theorem Ff (b:Int) (m:Nat):∀x∈(iV b m).reverse,1<=x/\bG b x=true:=λx n=>by
 have:=pY.mp (zY.mp n)
 exact ⟨this.1,this.2.2⟩
theorem WX {b n:Int} {k:Nat} {L:List Int} (h:Gt b k n L):∀m:Nat,(∀x∈L,x<=(m:Int))->0<cg true (iV b m).reverse k n/\nj (iV b m).reverse k n 0=L:=by
 induction h with
 | nil=>
  intro m _
  refine ⟨by rw [vq,zo (λ_=>rfl)];decide,?_⟩
  exact yI.mp (by have:=(C_ (iV b m).reverse 0 0 0).2;omega)
 | @cons k n p L p1 pm g no ih=>
  intro m
  have nn:=g.way.sm.nn
  induction m with
  | zero=>intro h;have:=h p zn;omega
  | succ m im=>
   intro h
   have Y:=h p zn
   have Z:=iW (b:=true) (iV b m).reverse (k+1) n
   have al:=Ff b (m+1)
   have U:(0:Int)<(m:Int)+1:=by omega
   by_cases e:p=(m:Int)+1
   ·obtain ⟨I,D⟩:=ih (m+1) (λx J=>h x (zr _ J))
    subst e
    rw [qe pm] at I D ⊢
    have O:cf ((m:Int)+1) (iV b m).reverse (k+1) n=cg true (((m:Int)+1)::(iV b m).reverse) k (n - ((m:Int)+1)):=by
     unfold cf;rw [zi (by omega)];rfl
    rw [Mf U,O,qd ⟨Nat.succ_pos k,by rw [O];exact I⟩,show k.succ - 1=k from rfl,D]
    exact ⟨by omega,rfl⟩
   ·have lo:∀x∈p::L,x<=(m:Int):=λx J=>by
     have w:=Gt.way (.cons p1 pm g no)
     have:=(List.pairwise_cons.mp w.fall).1
     rcases zu.mp J with rfl|J
     ·omega
     ·have:=this x J;omega
    obtain ⟨I,D⟩:=im lo
    by_cases c:bG b ((m:Int)+1)=true
    ·rw [qe c] at al ⊢
     have B:cf ((m:Int)+1) (iV b m).reverse (k+1) n=0:=by
      unfold cf
      by_cases z:k+1=0\/n<(m:Int)+1
      ·rw [zo z]
      ·rw [zi z]
       have c0:=iW (b:=true) (((m:Int)+1)::(iV b m).reverse) (k+1 - 1) (n - ((m:Int)+1))
       by_cases y:0<cg true (((m:Int)+1)::(iV b m).reverse) (k+1 - 1) (n - ((m:Int)+1))
       ·exact absurd (Mi _ al _ _ y) (no _ (by omega) c)
       ·omega
     rw [Mf U,B,vM (by rw [B];omega),B,Int.sub_zero,yK]
     exact ⟨I,D⟩
    ·rw [jm c]
     exact ⟨I,D⟩
theorem Mj {b n:Int} {L:List Int} (I:0<=n) {k:Nat} (g:Gt b k n L):0<cg true (aX b n).reverse k n/\nj (aX b n).reverse k n 0=L:=by
 refine WX g n.toNat λx B=>?_
 have w:=g.way
 have h:∀{L:List Int},(∀x∈L,1<=x/\bG b x=true)->∀x∈L,x<=L.sum:=λ{L}=>by
  induction L with
  | nil=>intro _ x B;cases B
  | cons y r ih=>
   intro h x B
   have s:=(EY λz D=>h z (zr _ D)).nn
   have J:=h y zn
   rw [yX]
   rcases zu.mp B with rfl|B
   ·omega
   ·have:=ih (λz D=>h z (zr _ D)) x B;omega
 have:=h w.mem x B
 rw [w.sum] at this
 omega
theorem Ml {b n:Int} {k:Nat} (B:2<=b) (h:k<nd b n):cg true (aX b n).reverse k n=0:=by
 have c0:=iW (b:=true) (aX b n).reverse k n
 by_cases z:0<cg true (aX b n).reverse k n
 ·have:=rM B (Mi _ (Ff b n.toNat) k n z);omega
 ·omega
end M
def L2.qD:="~O6 ~qC ~q2 ~Gk ~q1 ~fW ~XR ~O_ ~BL ~Vc ~qOr ~Vd ~Jo ~Ve ~Jp ~qIf ~qFz ~Pa ~Gn ~kY ~Vg ~Vh ~qIx ~BP ~nSl ~Vj ~Vk ~Vl ~Vm ~Wt ~qI2 ~uN ~Vo ~Vq ~Vs ~Jw ~Jy ~Jz ~Pj ~JB ~Vt ~Pk ~JC ~Gr ~JF ~Vw ~BX ~lH ~xP ~oF ~xQ ~Vy ~Vz ~iqL ~uR ~JN ~Sl.ev ~Sl.val ~Sl.mu ~Sl.put ~Rt.val ~Rt.sl ~lk ~Nu ~xM ~toI ~YX ~jP ~dj ~dY ~back ~outs ~bM ~Gp ~JS ~JT ~JW ~Pz ~u9 ~iqV ~uU ~J6 ~J7 ~V2 ~V3 ~J9 ~Cj ~iqS ~Ck ~Cm ~V6 ~nOr ~Wd ~oM ~Ke ~Kf ~V9 ~Kq ~Ko ~V_ ~Ks ~Ku ~V8 ~KH ~Cu ~vIf ~Cz ~uY ~uZ ~CG ~u5 ~K4 ~Wn ~K3 ~Wk ~Cy ~KR ~Wf ~KN ~KQ ~La ~vUp ~Lb ~CK List.map_cons List.map_nil List.length_cons List.length_nil List.replicate_succ List.replicate_zero List.cons_append List.nil_append List.getElem?_cons_zero List.getElem?_cons_succ List.getElem?_nil List.set_cons_zero List.set_cons_succ List.drop_succ_cons List.drop_zero"
def L2.qL:="↓~Zg ↓~VN ↓~PK ↓~Zh ↓~Zi ↓~VP ↓~PL ↓~VR ↓~VV ↓~V0 ↓~Zj ↓~V1 ~O6 ~qC ~q2 ~Gk ~q1 ~fW ~XR ~O_ ~BL ~Vc ~qOr ~Vd ~Jo ~Ve ~Jp ~qIf ~qFz ~Pa ~Gn ~kY ~Vg ~Vh ~qIx ~BP ~nSl ~Vj ~Vk ~Vl ~Vm ~Wt ~qI2 ~uN ~Vo ~Vq ~Vs ~Jw ~Jy ~Jz ~Pj ~JB ~Vt ~Pk ~JC ~Gr ~JF ~Vw ~BX ~lH ~xP ~oF ~xQ ~Vy ~Vz ~iqL ~uR ~JN ~tr2 ~Sl.ev ~Sl.val ~Sl.mu ~Sl.put ~Rt.val ~Rt.sl ~lk ~Nu ~xM ~toI ~YX ~jP ~dj ~dY ~back ~outs ~bM ~Gp ~O8 ~Vb ~O9 ~pO ~Jj ~uK ~gB ~D.int.injEq ~D.bl.injEq ~D.str.injEq ~D.lst.injEq ~D.tup.injEq ~D.atom.injEq ~Ev.fz.injEq ~Ev.ow.injEq Option.some.injEq List.cons.injEq exists_eq_left exists_eq_left' exists_eq_right exists_and_left exists_const exists_eq_right' exists_false false_and and_false List.map_cons List.map_nil List.length_cons List.length_nil Nat.reduceAdd Nat.reduceSub List.replicate_succ List.replicate_zero List.cons_append List.nil_append List.append_nil List.getElem?_cons_zero List.getElem?_cons_succ List.getElem?_nil List.set_cons_zero List.set_cons_succ List.drop_succ_cons List.drop_zero Bool.not_true Bool.not_false Bool.false_eq_true if_true if_false ite_true ite_false eq_self true_and and_true decide_eq_true_eq List.nodup_nil List.nodup_cons List.not_mem_nil not_false_eq_true Option.isSome_some reduceCtorEq ~Bh ~Va ~T_ ~Ob ~DR Int.reduceToNat Int.reducePow Int.reduceLT Int.reduceLE Int.reduceNeg Nat.reduceLeDiff Int.reduceMul Int.reduceAdd Int.reduceSub Int.reduceEq Int.zero_add Int.reduceAbs Int.reduceNe Nat.reduceLT Nat.reducePow Int.cast_ofNat_Int or_true true_or Bool.not_eq_true' decide_eq_false_iff_not Bool.true_and Bool.and_true Bool.false_and Bool.and_false decide_true decide_false ~Sl.d.injEq ~Sl.bor.injEq ~Sl.own.injEq ~Rt.rd.injEq ~Rt.ro.injEq String.reduceBEq String.reduceEq String.reduceBNe Bool.or_true Bool.or_false Bool.true_or Bool.false_or ~Zb ~Zc ~Zd ~Ze ~VG ~VH ite_not implies_true exists_eq exists_eq' ~acw ~acy ~acz ~acA ~acB ~acC ~acD ~acE ~acF ~acG ~acH ~acI ~acJ and_assoc ~Vi ~D.vY.injEq ~JS ~JT ~JW ~Pz ~u9 ~iqV ~uU ~J6 ~J7 ~V2 ~V3 ~J9 ~Cj ~iqS ~Ck ~Cm ~V6 ~tyD ~xfD ~nOr ~Wd ~oM ~Ke ~Kf ~V9 ~Kq ~Ko ~V_ ~Ks ~Ku ~Wb ~Wc ~V.ref.injEq ~V.int.injEq ~HO.lst.injEq ~V8 ~jC.of ~KH ~kOf ~ZP ~Qj ~Cu ~vIf ~Cz ~uY ~uZ ~CG ~u5 ~K4 ~Wn ~K3 ~Wk ~Cy ~KR ~Wf ~KN ~KQ ~La ~Ac ~vUp ~Lb ~CK"
def L2.zzS(s:String)(a:Array Lean.Syntax):Lean.Syntax:=Lean.Syntax.mkSep (a++((s.splitOn " ").map fun x=>L2.zzM #[] ((if x.startsWith "↓" then "'↓ 1#simpPre 1null" else "0null")++" 0null %"++x.replace "↓" ""++" 3#simpLemma")).toArray) (Lean.mkAtom ",")
def L2.zzX(a:Array Lean.Syntax):Lean.MacroM Lean.Syntax:=
 let k:=toString (a.getD 0 .missing)[2].getId++" "
 match ("L2.QL '( 'first '| 'exact %Or.inl %rfl 1null 2&app 2#exact^ 2group '| 'exact %Or.inr %rfl 1null 2&app 2#exact^ 2group 2null 2#first^ ') 3#paren\nHs '( 'exact '⟨ %rfl ', %rfl ', %rfl ', 'by 'decide '+ %kernel 2#posConfigItem 1#configItem 1null 1#optConfig 2#decide^ 2&byTactic ', %rfl ', 'by 'decide '+ %kernel 2#posConfigItem 1#configItem 1null 1#optConfig 2#decide^ 2&byTactic ', 'by 'decide '+ %kernel 2#posConfigItem 1#configItem 1null 1#optConfig 2#decide^ 2&byTactic =null '⟩ 3&anonymousCtor 2#exact^ ') 3#paren\nHo '( '( 'first '| 'refine %~hA %rfl} { '| 'refine %~hN} ` '| 'refine %~hA @ %~nbv %rfl 1null 2&app *} { '| 'refine %~hE @ %~hA %rfl} 2null 2&app * ` '| 'refine %~hE @ %~hE @ %~hA %rfl} 2null 2&app * 1null 2&app * ` '| 'refine %~hE @ %~hE @ %~hA %rfl @ %~hA %rfl} 2null 2&app * 2null 2&app * 1null 2&app * ` '| 'refine %~hC1 %rfl} { '| 'refine %~hC0 %rfl} { '| 'refine %~hL %rfl} { '| 'refine %~hX %rfl} { '| 'refine %~hT} ` '| 'refine %~hD %rfl} { '| 'refine %~hQ @ %~dZ.int '_ 1&hole '_ 1&hole 2null 2&app *} { '| 'refine %~hQ @ %~dZ.str '_ 1&hole '_ 1&hole 2null 2&app *} { '| 'refine %~hE @ %~hE @ %~hE @ %~hA %rfl} 2null 2&app * 1null 2&app * 1null 2&app * ` '| 'refine %~hE @ %~hE @ %~hE @ %~hA %rfl @ %~hA %rfl} 2null 2&app * 2null 2&app * 1null 2&app * 1null 2&app * ` '| 'refine %~hE @ %~hE @ %~hE @ %~hA %rfl @ %~hA %rfl @ %~hA %rfl} 2null 2&app * 2null 2&app * 2null 2&app * 1null 2&app * 1null 2&app * ` '| 'refine %~hE @ %~hE @ %~hE @ %~hE @ %~hA %rfl} 2null 2&app * 1null 2&app * 1null 2&app * 1null 2&app * ` '| 'refine %~hE @ %~hE @ %~hE @ %~hE @ %~hA %rfl @ %~hA %rfl @ %~hA %rfl} 2null 2&app * 2null 2&app * 2null 2&app * 1null 2&app * 1null 2&app * 1null 2&app * ` Cnull 2#first^ ') 3#paren^ ') 3#paren\nHh '( '( 'repeat 'simp 0null 1#optConfig 0null 'only 1null '[ 0null 0null %Ho 3#simpLemma 1null '] 3null 0null 6#simp^ 2#tacticRepeat_^ ') 3#paren^ ') 3#paren\nHg '( '( 'repeat '( '( 'fail_if_success '( 'with_reducible 'first '| 'refine %~hG} ` '| 'refine %~hV} ` 2null 2#first^ 2#withReducible^ ') 3#paren^ 2#failIfSuccess^ ') 3#paren '; 'simp 0null 1#optConfig 0null 'only 1null '[ 0null 0null %Ho 3#simpLemma 1null '] 3null 0null 6#simp 3null 1#tacticSeq1Indented 1#tacticSeq ') 3#paren^ 2#tacticRepeat_^ ') 3#paren^ ') 3#paren\nQ '( 'simp 0null 1#optConfig 0null 'only 1null '[ 0null 0null %Hg 3#simpLemma 1null '] 3null 0null 6#simp '; '( 'try 'dsimp 0null 1#optConfig 0null 'only 1null '[ $a '] 3null 0null 6#dsimp^ 2#tacticTry_^ ') 3#paren '; '( 'try 'simp 0null 1#optConfig 0null 'only 1null '[ $ab '] 3null 0null 6#simp^ 2#tacticTry_^ ') 3#paren 5null 1#tacticSeq1Indented 1#tacticSeq ') 3#paren\nR '( 'simp 0null 1#optConfig 0null 'only 1null '[ 0null 0null %Hg 3#simpLemma 1null '] 3null 0null 6#simp '; '( 'try 'dsimp 0null 1#optConfig 0null 'only 1null '[ $a '] 3null 0null 6#dsimp^ 2#tacticTry_^ ') 3#paren '; '( 'try 'simp 0null 1#optConfig 0null 'only 1null '[ $ab '] 3null 0null 6#simp^ 2#tacticTry_^ ') 3#paren 5null 1#tacticSeq1Indented 1#tacticSeq ') 3#paren\nS '( '( 'try 'dsimp 0null 1#optConfig 0null 'only 1null '[ $a '] 3null 0null 6#dsimp^ 2#tacticTry_^ ') 3#paren '; '( 'try 'simp 0null 1#optConfig 0null 'only 1null '[ $ab '] 3null 0null 6#simp^ 2#tacticTry_^ ') 3#paren 3null 1#tacticSeq1Indented 1#tacticSeq ') 3#paren".splitOn "\n").find? (·.startsWith k) with
 |none=>Lean.Macro.throwUnsupported
 |some r=>pure (L2.zzM #[L2.zzS L2.qD #[],L2.zzS (if k=="Q " then L2.qL++" ~xO ~sW" else L2.qL) (a.drop 1)] (r.drop k.length).toString)
local macro_rules|`(tactic|simp only [$xs,*])=>L2.zzX xs
namespace K49
open PySem L2
def top (i:Nat):Stmt:=PySem.Challenge.pw_mirrorsums_k49_whole_by_the_desk.main.body.getD i (.Pass ⟨0,0,0,0⟩)
def SM:Stmt->Nat->Stmt
 | .ClassDef (body:=b) ..,j=>b.getD j (.Pass ⟨0,0,0,0⟩)
 | s,_=>s
structure Txt (mg:Str->Option Value):Prop where
 jn:mg "isinstance"=none
 iY:mg "int"=none
 WY:mg "bool"=none
 W0:mg "list"=none
 fK:mg "len"=none
 e_:mg "range"=none
 Z9:mg "min"=none
 Ak:mg "divmod"=none
 lW:mg "reversed"=none
 Z_:mg "zip"=none
 bw:mg "str"=none
 aaa:mg "sum"=none
 Mm:mg "sorted"=none
 jo:∃t,mg "LEAST_BASE"=some (.int 2 t)
 fQ:∃t,mg "GREATEST_BASE"=some (.int 36 t)
 jr:∃t,mg "FIRST_BASE"=some (.int 10 t)
 gO:∃t,mg "MOST_FIGURES"=some (.int 41 t)
 eN:∃t,mg "FIGURES_OF_TEN"=some (.str "0123456789" t)
 iB:∃t,mg "WAY_OF_NONE"=some (.str "0" t)
set_option genInjectivity false in
structure XA where
 jt:Addr
structure XT (K:PySem.W.Frag) (mg:Str->Option Value) (cs:XA):Prop where
 oW:DP K mg "NoPlace" cs.jt
 nq:PySem.W.subIn K (.ref cs.jt) (.ref cs.jt)=some true
theorem W3 (ds:List D):∀(i:Nat) (s:Sl),(ds.map Sl.d)[i]? = some s->∃d,s=.d d:=λi s h=>by
 rw [zP] at h
 cases e:ds[i]? with
 | none=>rw [e] at h;cases h
 | some d=>rw [e] at h;cases h;exact ⟨d,rfl⟩
abbrev s_Y:Stmt:=top 71
theorem adb:ao ["cell","k"] ["cell","k"] (aa s_Y):=by simp only [Hs]
abbrev s_d:Stmt:=top 70
theorem Mq:ao ["deck","many","come","number"] ["deck","many"] (aa s_d):=by simp only [Hs]
abbrev s_v:Stmt:=top 72
theorem GZ:ao ["deck","most","length","way","number","k"] ["deck","most"] (aa s_v):=by simp only [Hs]
abbrev s_t:Stmt:=top 9
theorem ade:ao ["thing"] ["thing"] (aa s_t):=by simp only [Hs]
abbrev s_a:Stmt:=top 10
theorem adf:ao ["thing"] ["thing"] (aa s_a):=by simp only [Hs]
abbrev s_X:Stmt:=top 41
theorem adg:ao ["part","size","number","many"] ["part","size","number","many"] (aa s_X):=by simp only [Hs]
abbrev s_Z:Stmt:=top 42
theorem Mr:ao ["part","rows","number","many","size","row","shorter","total"] ["part","rows","number","many"] (aa s_Z):=by simp only [Hs]
abbrev s_y:Stmt:=top 44
theorem W4:ao ["parts","number","many","rows","part"] ["parts","number","many"] (aa s_y):=by simp only [Hs]
abbrev s_K:Stmt:=top 14
theorem QJ:ao ["base","many","product","step"] ["base","many"] (aa s_K):=by simp only [Hs]
abbrev s_j:Stmt:=top 15
theorem adi:ao ["length","base"] ["length","base"] (aa s_j):=by simp only [Hs]
abbrev s_f:Stmt:=top 17
theorem G3:ao ["front","length","base","mirrored","left","figure"] ["front","length","base"] (aa s_f):=by simp only [Hs]
abbrev s_q:Stmt:=top 11
theorem Ms:ao ["number","base","row","left","figure"] ["number","base"] (aa s_q):=by simp only [Hs]
abbrev s_c:Stmt:=top 25
theorem G4:ao ["bound","base","told","length","least","front","mirrored"] ["bound","base"] (aa s_c):=by simp only [Hs]
abbrev s_C:Stmt:=top 46
theorem aab:ao ["number","base","many","rows"] ["number","base","many"] (aa s_C):=by simp only [Hs]
abbrev s_G:Stmt:=top 35
theorem aac:ao ["word","most","sign"] ["word","most"] (aa s_G):=by simp only [Hs]
abbrev s_D:Stmt:=top 65
theorem aad:ao ["word","bound","number"] ["word","bound"] (aa s_D):=by simp only [Hs]
abbrev s_s:Stmt:=top 66
theorem QK:ao ["words","first","others","bounds"] ["words"] (aa s_s):=by simp only [Hs]
abbrev s_A:Stmt:=top 52
theorem adn:ao ["base","numbers"] ["base","numbers"] (aa s_A):=by simp only [Hs]
abbrev s_i:Stmt:=top 12
theorem aae:ao ["thing","base","row"] ["thing","base"] (aa s_i):=by simp only [Hs]
abbrev aaf:Stmt:=top 53
theorem aag:ao ["base","numbers"] ["base","numbers"] (aa aaf):=by simp only [Hs]
abbrev s_S:Stmt:=top 16
theorem ado:ao ["number","length","base"] ["number","length","base"] (aa s_S):=by simp only [Hs]
abbrev aah:Stmt:=top 18
theorem Mt:ao ["number","base","length","front"] ["number","base"] (aa aah):=by simp only [Hs]
abbrev s_E:Stmt:=top 20
theorem QM:ao ["number","base","length","front","mirrored"] ["number","base"] (aa s_E):=by simp only [Hs]
abbrev s_O:Stmt:=top 54
theorem adp:ao ["base","numbers"] ["base","numbers"] (aa s_O):=by simp only [Hs]
abbrev s_R:Stmt:=top 21
theorem QV:ao ["number","base","length","front","mirrored"] ["number","base"] (aa s_R):=by simp only [Hs]
abbrev s_M:Stmt:=top 55
theorem adq:ao ["base","numbers"] ["base","numbers"] (aa s_M):=by simp only [Hs]
abbrev s_m:Stmt:=top 19
theorem adt:ao ["length","base"] ["length","base"] (aa s_m):=by simp only [Hs]
abbrev s_J:Stmt:=top 24
theorem W6:ao ["thing","base","length","behind"] ["thing","base"] (aa s_J):=by simp only [Hs]
abbrev aai:Stmt:=top 22
theorem aaj:ao ["number","base"] ["number","base"] (aa aai):=by simp only [Hs]
abbrev s_N:Stmt:=top 56
theorem adu:ao ["base","numbers"] ["base","numbers"] (aa s_N):=by simp only [Hs]
abbrev s_B:Stmt:=top 23
theorem QX:ao ["place","base","length","behind"] ["place","base"] (aa s_B):=by simp only [Hs]
abbrev aak:Stmt:=top 57
theorem aal:ao ["base","numbers"] ["base","numbers"] (aa aak):=by simp only [Hs]
abbrev s_P:Stmt:=top 58
theorem adv:ao ["base","numbers"] ["base","numbers"] (aa s_P):=by simp only [Hs]
abbrev s_x:Stmt:=top 36
theorem adx:ao ["way"] ["way"] (aa s_x):=by simp only [Hs]
abbrev aam:Stmt:=top 27
theorem Al:ao ["number","base","told","left","greatest"] ["number","base"] (aa aam):=by simp only [Hs]
abbrev s_V:Stmt:=top 59
theorem ady:ao ["base","numbers"] ["base","numbers"] (aa s_V):=by simp only [Hs]
abbrev W7:Stmt:=top 38
theorem aan:ao ["number","base"] ["number","base"] (aa W7):=by simp only [Hs]
abbrev s_L:Stmt:=top 39
theorem adz:ao ["number","base"] ["number","base"] (aa s_L):=by simp only [Hs]
abbrev s_U:Stmt:=top 60
theorem adA:ao ["base","numbers"] ["base","numbers"] (aa s_U):=by simp only [Hs]
abbrev s_w:Stmt:=top 29
theorem W8:ao ["number","parts","known","lesser","greater"] ["number","parts","known"] (aa s_w):=by simp only [Hs]
abbrev s_k:Stmt:=top 30
theorem QZ:ao ["number","many","parts","known","part","others"] ["number","many","parts","known"] (aa s_k):=by simp only [Hs]
abbrev s_T:Stmt:=top 31
theorem Dd:ao ["number","base","parts","known","many","way"] ["number","base"] (aa s_T):=by simp only [Hs]
abbrev s_H:Stmt:=top 61
theorem adC:ao ["base","numbers"] ["base","numbers"] (aa s_H):=by simp only [Hs]
abbrev s_F:Stmt:=top 62
theorem W9:ao ["base","numbers","number","many"] ["base","numbers"] (aa s_F):=by simp only [Hs]
abbrev s_o:Stmt:=top 45
theorem adD:ao ["part","rows","number","many"] ["part","rows","number","many"] (aa s_o):=by simp only [Hs]
abbrev s_I:Stmt:=top 43
theorem Mu:ao ["part","rows","number","many","size","row","shorter","total"] ["part","rows","number","many"] (aa s_I):=by simp only [Hs]
abbrev s_p:Stmt:=top 47
theorem nu:ao ["number","base","many","place","parts","rows","way","left","ahead","part","here"] ["number","base","many","place"] (aa s_p):=by simp only [Hs]
abbrev s_l:Stmt:=top 63
theorem Am:ao ["base","numbers","number","many","place"] ["base","numbers"] (aa s_l):=by simp only [Hs]
abbrev Mv:Stmt:=SM (top 67) 1
theorem gP:ao ["self","words","first","numbers","answer"] ["self","words"] (aa Mv):=by simp only [Hs]
abbrev s_u:Stmt:=top 79
theorem Q0:ao ["desk","words","answer"] ["desk","words"] (aa s_u):=by simp only [Hs]
abbrev s_g:Stmt:=top 80
theorem An:ao ["desk","deck","base","number","many","told","count","words","place","due"] ["desk","deck","base","number"] (aa s_g):=by simp only [Hs]
abbrev s_Q:Stmt:=top 74
theorem adF:ao ["desk","number"] ["desk","number"] (aa s_Q):=by simp only [Hs]
abbrev s_e:Stmt:=top 75
theorem Mw:ao ["desk","base","number","told","total","figure"] ["desk","base","number"] (aa s_e):=by simp only [Hs]
abbrev s_n:Stmt:=top 76
theorem Q3:ao ["desk","number","below","above","place"] ["desk","number"] (aa s_n):=by simp only [Hs]
abbrev s_z:Stmt:=top 73
theorem adI:ao ["text"] ["text"] (aa s_z):=by simp only [Hs]
abbrev s_r:Stmt:=top 77
theorem Q4:ao ["desk","number","left","part"] ["desk","number"] (aa s_r):=by simp only [Hs]
abbrev s_h:Stmt:=top 78
theorem Mx:ao ["desk","number","few","least","many","first"] ["desk","number"] (aa s_h):=by simp only [Hs]
abbrev W_:Stmt:=SM (top 67) 0
theorem aao:ao ["self"] ["self"] (aa W_):=by simp only [Hs]
abbrev SN:Stmt:=top 81
theorem lX:ao ["script","desk","cell","deck","base","number","small"] ["script"] (aa SN):=by simp only [Hs]
inductive Mz (K:PySem.W.Frag):List (Str × Addr)->List (Str × List Int)->Prop
 | nil:Mz K [] []
 | cons {x:Str} {a:Addr} {ns:List Int} {T:List (Str × Addr)} {B:List (Str × List Int)}:NB K a ns->Mz K T B->Mz K ((x,a)::T) ((x,ns)::B)
set_option genInjectivity false in
structure Zs (K:PySem.W.Frag) (mg:Str->Option Value) (cs:XA) extends Txt mg,XT K mg cs where
 lY:aF K mg "_law_deck" s_Y ["cell","k"]
 bC:aF K mg "_law_take" s_d ["deck","many"]
 ju:aF K mg "_law_number" s_v ["deck","most"]
 eO:aF K mg "is_whole" s_t ["thing"]
 aJ:aF K mg "check_base" s_a ["thing"]
 nF:aF K mg "totals" s_X ["part","size","number","many"]
 rN:aF K mg "put_in" s_Z ["part","rows","number","many"]
 iZ:aF K mg "rows_of" s_y ["parts","number","many"]
 jw:aF K mg "power" s_K ["base","many"]
 cQ:aF K mg "least_front" s_j ["length","base"]
 cL:aF K mg "from_front" s_f ["front","length","base"]
 eU:aF K mg "figures" s_q ["number","base"]
 cC:aF K mg "mirrored_to" s_c ["bound","base"]
 fL:aF K mg "many_ways" s_C ["number","base","many"]
 jx:aF K mg "is_written" s_G ["word","most"]
 iC:aF K mg "read_number" s_D ["word","bound"]
 gQ:aF K mg "read_row" s_s ["words"]
 bF:aF K mg "answer_figures" s_A ["base","numbers"]
 cR:aF K mg "is_mirrored" s_i ["thing","base"]
 cW:aF K mg "answer_is" aaf ["base","numbers"]
 jy:aF K mg "front_of" s_S ["number","length","base"]
 nG:aF K mg "folded" aah ["number","base"]
 i_:aF K mg "at_most" s_E ["number","base"]
 bR:aF K mg "answer_below" s_O ["base","numbers"]
 lZ:aF K mg "at_least" s_R ["number","base"]
 bT:aF K mg "answer_above" s_M ["base","numbers"]
 cJ:aF K mg "many_to_length" s_m ["length","base"]
 jz:aF K mg "place_of" s_J ["thing","base"]
 oX:aF K mg "many_to" aai ["number","base"]
 bU:aF K mg "answer_count" s_N ["base","numbers"]
 iD:aF K mg "mirrored_at" s_B ["place","base"]
 cX:aF K mg "answer_at" aak ["base","numbers"]
 bV:aF K mg "answer_place" s_P ["base","numbers"]
 eV:aF K mg "show_way" s_x ["way"]
 vP:aF K mg "a_few" aam ["number","base"]
 cM:aF K mg "answer_few" s_V ["base","numbers"]
 rO:aF K mg "by_two" W7 ["number","base"]
 iG:aF K mg "many_by_two" s_L ["number","base"]
 cN:aF K mg "answer_two" s_U ["base","numbers"]
 fU:aF K mg "greatest_pair" s_w ["number","parts","known"]
 bY:aF K mg "greatest_way" s_k ["number","many","parts","known"]
 rP:aF K mg "fewest" s_T ["number","base"]
 bJ:aF K mg "answer_fewest" s_H ["base","numbers"]
 cD:aF K mg "answer_ways" s_F ["base","numbers"]
 cU:aF K mg "many_with_first" s_o ["part","rows","number","many"]
 l_:aF K mg "take_out" s_I ["part","rows","number","many"]
 gR:aF K mg "way_at" s_p ["number","base","many","place"]
 a_:aF K mg "answer_way" s_l ["base","numbers"]
 dU:aF K mg "_law_way_said" s_u ["desk","words"]
 eX:aF K mg "_law_ways_right" s_g ["desk","deck","base","number"]
 fM:aF K mg "_law_is" s_Q ["desk","number"]
 dm:aF K mg "_law_figures_right" s_e ["desk","base","number"]
 eY:aF K mg "_law_near_right" s_n ["desk","number"]
 dW:aF K mg "_law_way_in" s_z ["text"]
 fV:aF K mg "_law_few_right" s_r ["desk","number"]
 dX:aF K mg "_law_small_right" s_h ["desk","number"]
 ug:aF K mg "law" SN ["script"]
 aB:Addr
 tB:List (Str × Addr)
 mB:mg "BOUNDS"=some (.ref aB)
 kB:KTb K aB tB
 bB:Mz K tB TX.BT
 aA:Addr
 mA:mg "ANSWERS"=some (.ref aA)
 kA:KTb K aA [("figures",bF.f),("is",cW.f),("below",bR.f),("above",bT.f),("count",bU.f),("at",cX.f),("place",bV.f),("few",cM.f),("two",cN.f),("fewest",bJ.f),("ways",cD.f),("way",a_.f)]
 cl:Addr
 mC:mg "Desk"=some (.ref cl)
 cls:tD K cl
 na:g_ K cl "base"
 MF:Addr
 say:Meth K cl "say" MF
 Ao:FuncData
 Xa:sy K "say" "Desk.say" Mv MF Ao
 iH:Binds K Ao ["self","words"] []
 Xb:Addr
 mkd:Mk K cl Xb
 MJ:FuncData
 adK:sy K "__init__" "Desk.__init__" W_ Xb MJ
 aap:Binds K MJ ["self"] []
abbrev Ok (P:Program) (w:World) (base:Heap) (k:Nat) {K:PySem.W.Frag} {mg:Str->Option Value} {x:Str} {st:Stmt} {ps:List Str} (d:aF K mg x st ps) (S:eE):=bO P w K mg base lB k d.f d.fd ps (Gv K S)
abbrev OkV (P:Program) (w:World) (base:Heap) (k:Nat) {K:PySem.W.Frag} {mg:Str->Option Value} {x:Str} {st:Stmt} {ps:List Str} (d:aF K mg x st ps) (S:Ei):=bO P w K mg base lB k d.f d.fd ps (Hf K S)
abbrev Xc (P:Program) (w:World) (base:Heap) (k:Nat) {K:PySem.W.Frag} {mg:Str->Option Value} {x:Str} {st:Stmt} {ps:List Str} (d:aF K mg x st ps) (S:Bc):=bO P w K mg base lB k d.f d.fd ps (VB K S)
abbrev OkX (P:Program) (w:World) (base:Heap) (k:Nat) {K:PySem.W.Frag} {mg:Str->Option Value} {x:Str} {st:Stmt} {ps:List Str} (d:aF K mg x st ps) (S:V5):=bO P w K mg base (nP P w) k d.f d.fd ps (Zo K S)
section
variable (P:Program) (w:World) {K:PySem.W.Frag} {mg:Str->Option Value} (base:Heap) {cs:XA}
theorem ak {t R:iu} {E:gY} {p:aG} (h:∀k:aG->Prop,(∀p',R E p'->k p')->t { E with nx:=k } p):xO t R E p:=h (R E) (λ_ h=>h)
def S_t:eE:=λas R=>∃x a b,as=[.d x]/\Gp "int" x=some a/\Gp "bool" x=some b/\R (.rd (.bl (a && !b))) as
theorem Q5 (T:Zs K mg cs):Ok P w base 1 T.eO S_t:=by
 refine T.eO.F.gU ade (λas R h=>?_) (λB A outer s H E C as R n z h=>?_)
 ·obtain ⟨_,_,_,rfl,_⟩:=h;rfl
 have D:=z.units
 obtain ⟨x,a,b,rfl,h1,h2,q⟩:=h
 refine ⟨_,(sr (Jr (BW (T:="int") n (by first|exact .inl rfl|exact .inr (.inl rfl)|exact .inr (.inr (.inl rfl))|exact .inr (.inr (.inr (.inl rfl)))|exact .inr (.inr (.inr (.inr rfl)))) rfl T.jn (a2 (qv 0) (jc (uv (v:=.ty "int") rfl T.iY (by kernel_rfl) rfl) (λ_=>.atom _)))) (Jq (Vf (BW (T:="bool") n (by first|exact .inl rfl|exact .inr (.inl rfl)|exact .inr (.inr (.inl rfl))|exact .inr (.inr (.inr (.inl rfl)))|exact .inr (.inr (.inr (.inr rfl)))) rfl T.jn (a2 (qv 0) (jc (uv (v:=.ty "bool") rfl T.WY (by kernel_rfl) rfl) (λ_=>.atom _)))))))),?_⟩;simp only [Q,and_assoc]
 cases x<;>first|(cases h1;done)|skip
 all_goals (cases h1;cases h2;simp only [Q])
 all_goals first|exact q|exact ⟨_,rfl,q⟩
def S_a:eE:=λas R=>∃b:Int,as=[.d (.int b)]/\2<=b/\b<=36/\R (.rd .non) as
theorem jY (T:Zs K mg cs):Ok P w base 2 T.aJ S_a:=by
 have B:=Q5 P w base T
 obtain ⟨z,jo⟩:=T.jo
 obtain ⟨n,fQ⟩:=T.fQ
 refine T.aJ.F.gU adf (λas R h=>?_) (λJ A outer s H E C as R I D h=>?_)
 ·obtain ⟨_,rfl,_⟩:=h;rfl
 have Y:=D.units
 obtain ⟨b,rfl,U,O,q⟩:=h
 refine ⟨_,(aQ (bD (PW.pt (w_or (d7 (fu (aq (aj I T.eO B D.m (a1 (qv 0)))))) (iK (d7 (pP oZ oZ (jc (gV (v:=.int 2) rfl jo ⟨_,rfl⟩) (λ_=>.int _)) (qv 0) (jc (gV (v:=.int 36) rfl fQ ⟨_,rfl⟩) (λ_=>.int _))))))) (aQ qP) aR)),?_⟩;simp only [Q,and_assoc,S_t]
 rw [zo U,zo O]
 exact q
def S_q:eE:=λas R=>∃n b:Int,as=[.d (.int n),.d (.int b)]/\0<=n/\n<M.vh/\2<=b/\b<=36/\R (.ro ((M.fg b n).map D.int)) as
theorem MK (T:Zs K mg cs):Ok P w base 3 T.eU S_q:=by
 have Y:=jY P w base T
 refine T.eU.F.gU Ms (λas R h=>?_) (λcdv A outer s H E C as R J hr h=>?_)
 ·obtain ⟨_,_,rfl,_⟩:=h;rfl
 have hu:=hr.units
 obtain ⟨n,b,rfl,Z,n1,U,b1,q⟩:=h
 refine ⟨_,(bf (qO (aq (aj J T.aJ Y hr.m (a1 (qv 1)))))
    (bf (lE (i:=2) Ms.nd rfl lc (dG pq))
    (bf (aL (i:=3) Ms.nd rfl lc (qv 0))
    (bf (JL zO (Gm (qv 3) (qv 1)) (bf (jM (tW rfl T.Ak (a2 (qv 3) (qv 1))) (qQ (n:=2) J rfl (bx (aO (i:=3) Ms.nd rfl lc) (bx (aO (i:=4) Ms.nd rfl lc) iy))))
    (aQ (qO (jL J (pv 2) (a1 (qv 4)))))))
    (bf (qO (jL J (pv 2) (a1 (qv 3))))
    (bf (qO (Gq J (pv 2)))
    (aQ (oE (i:=2) (pv 2))))))))),?_⟩
 simp only [Hh]
 refine ⟨U,b1,?_⟩
 simp only [Hh]
 dsimp only
 refine cj ?_
 obtain ⟨I,O⟩:∃I:aG->Prop,I=(λp=>∃(B:List Int) (z:Int) (v:Option D),p=[some (.d (.int n)),some (.d (.int b)),some (.own (B.map D.int)),some (.d (.int z)),Option.map Sl.d v]/\M.Lh b n B z):=⟨_,rfl⟩
 refine mW I (λp=>match p[3]? with|some (some (Sl.d (D.int r)))=>r.toNat|_=>0) (by rw [O];exact ⟨[],n,none,rfl,M.Lh.start U Z⟩) ?_
 intro p hp
 rw [O] at hp
 obtain ⟨B,z,v,rfl,g⟩:=hp
 have len:=g.len (by rw [<-M.mZ];exact n1)
 simp only [Hh]
 refine jk (λc=>?_) (λc=>?_)
 ·have:=Int.ediv_lt_self_of_pos_of_ne_one (show 0<z by omega) (show b≠1 by omega)
  simp only [Hh]
  refine ⟨⟨by omega,by omega⟩,?_⟩
  simp only [Hh]
  refine ⟨by rw [z9];omega,?_⟩
  simp only [Hh]
  refine ⟨by rw [O];exact ⟨B++[z % b],z / b,some (.int (z % b)),by rw [yp];rfl,g.turn c⟩,show (z / b).toNat<z.toNat by omega⟩
 ·have e:(List.map D.int B++[D.int z]).reverse=(M.fg b n).map D.int:=by
   rw [<-(g.done (by omega)).fg U Z,xr,yp];rfl
  simp only [Hh]
  refine ⟨by rw [z9];omega,?_⟩
  simp only [Hh]
  rw [<-e] at q
  exact q
def S_i:eE:=λas R=>∃n b:Int,as=[.d (.int n),.d (.int b)]/\0<=n/\n<M.vh/\2<=b/\b<=36/\R (.rd (.bl (M.bG b n))) as
theorem Q6 (T:Zs K mg cs):Ok P w base 4 T.cR S_i:=by
 have O:=jY P w base T
 have J:=MK P w base T
 have I:=Q5 P w base T
 refine T.cR.F.gU aae (λas R h=>?_) (λcdv A outer s H E C as R z B h=>?_)
 ·obtain ⟨_,_,rfl,_⟩:=h;rfl
 have hu:=B.units
 obtain ⟨n,b,rfl,U,n1,Z,Y,q⟩:=h
 refine ⟨_,(bf (qO (aq (aj z T.aJ O B.m (a1 (qv 1)))))
    (bf (bD (PW.pt (w_or (d7 (fu (aq (aj z T.eO I B.m (a1 (qv 0)))))) (iK (sS (qv 0) qi)))) (sr (jc cO (λ_=>.bl _))) aR)
    (bf (aL (i:=2) aae.nd rfl lc (aq (aj z T.eU J B.m (a2 (qv 0) (qv 1)))))
    (sr (JX z hu (qv 2) (aq (Ju z (qv 2)))))))),?_⟩
 simp only [Hh]
 refine ⟨Z,Y,?_⟩
 simp only [Hh]
 refine jk (λc=>absurd U (Int.not_le.mpr c)) (λc=>?_)
 simp only [Hh]
 refine ⟨U,n1,Z,Y,?_⟩
 simp only [Hh]
 refine ⟨oG.ints _,by rw [<-xr];exact oG.ints _,?_⟩
 simp only [Hh]
 have e:oH (.lst ((M.fg b n).map D.int)) (.lst ((M.fg b n).map D.int).reverse)=M.bG b n:=by
  rw [<-xr,oJ];rfl
 rw [<-e] at q
 exact q
def S_K:eE:=λas R=>∃(b:Int) (m:Int),as=[.d (.int b),.d (.int m)]/\0<=b/\b<=36/\m<100000/\-100<m/\R (.rd (.int (b ^ m.toNat))) as
theorem Q7 (T:Zs K mg cs):Ok P w base 1 T.jw S_K:=by
 refine T.jw.F.gU QJ (λas R h=>?_) (λJ A outer s H E C as R Z D h=>?_)
 ·obtain ⟨_,_,rfl,_⟩:=h;rfl
 have Y:=D.units
 obtain ⟨b,m,rfl,b0,b1,U,O,q⟩:=h
 refine ⟨_,(bf (aL (i:=2) QJ.nd rfl lc qi)
    (bf (jO zO rfl (jN rfl T.e_ (a1 (qv 1))) (aO (i:=3) QJ.nd rfl lc) (aQ (acj (i:=2) QJ.nd rfl lc (qv 0))))
    (sr (qv 2)))),?_⟩;simp only [Q,and_assoc]
 obtain ⟨I,B⟩:∃I:Nat->aG->Prop,I=(λi p=>∃v,p=[some (.d (.int b)),some (.d (.int m)),some (.d (.int (b ^ i))),Option.map Sl.d v]):=⟨_,rfl⟩
 refine mV (n:=m.toNat) (item:=λi=>.int i) (p1:=_) (λQ h=>by simp only [Q];exact ⟨by omega,by omega,h⟩) I (by rw [B];exact ⟨none,by rw [xB];rfl⟩) ?_ ?_
 ·intro i p hi z
  rw [B] at z
  obtain ⟨v,rfl⟩:=z
  simp only [Q]
  refine ⟨by omega,by rw [B];exact ⟨some (.int i),by rw [zL];rfl⟩⟩
 ·intro p z
  rw [B] at z
  obtain ⟨v,rfl⟩:=z
  simp only [Hh]
  exact q
def S_j:eE:=λas R=>∃(L:Nat) (b:Int),as=[.d (.int (L:Int)),.d (.int b)]/\0<=b/\b<=36/\L<=90000/\R (.rd (.int (b ^ (M.hf L - 1)))) as
theorem Q8 (T:Zs K mg cs):Ok P w base 2 T.cQ S_j:=by
 have n:=Q7 P w base T
 refine T.cQ.F.gU adi (λas R h=>?_) (λD A outer s H E C as R B z h=>?_)
 ·obtain ⟨_,_,rfl,_⟩:=h;rfl
 have U:=z.units
 obtain ⟨L,b,rfl,J,I,O,q⟩:=h
 refine ⟨_,(aQ (cH (aj B T.jw n z.m (a2 (qv 1) (bQ (ji (cG (qv 0) qi) qi) qi))))),?_⟩
 simp only [Hh]
 have e:(((L:Int)+1) / 2 - 1).toNat=M.hf L - 1:=by unfold M.hf;omega
 rw [e]
 exact ⟨J,I,by omega,by omega,q⟩
def S_S:eE:=λas R=>∃(n:Int) (L:Nat) (b:Int),as=[.d (.int n),.d (.int (L:Int)),.d (.int b)]/\2<=b/\b<=36/\L<=90000/\b ^ (L / 2)<2 ^ 4000/\R (.rd (.int (n / b ^ (L / 2)))) as
theorem aar (T:Zs K mg cs):Ok P w base 2 T.jy S_S:=by
 have z:=Q7 P w base T
 refine T.jy.F.gU ado (λas R h=>?_) (λJ A outer s H E C as R I B h=>?_)
 ·obtain ⟨_,_,_,rfl,_⟩:=h;rfl
 have Y:=B.units
 obtain ⟨n,L,b,rfl,Z,O,U,D,q⟩:=h
 refine ⟨_,(sr (ji (qv 0) (aq (aj I T.jw z B.m (a2 (qv 2) (ji (qv 1) qi)))))),?_⟩;simp only [Q,and_assoc,S_K]
 have e:((L:Int) / 2).toNat=L / 2:=by omega
 rw [e]
 have p:=M.au (show 0<b by omega) (L / 2)
 exact ⟨by omega,O,by omega,by omega,p,.inr (Fits.of p D (by decide)),q⟩
theorem Q9 (L:Nat):Builtin.bitAnd (L:Int) 1=((L % 2:Nat):Int):=by
 rw [PyProof.Rows.bitAnd_pp (by omega) (by decide)]
 congr 1
 show (L &&& 1)=_
 exact Nat.and_one_is_mod L
def mj (b f:Int) (L:Nat):Int:=if f=0 then 0 else M.fG b f L
def S_f:eE:=λas R=>∃(f:Int) (L:Nat) (b:Int),as=[.d (.int f),.d (.int (L:Int)),.d (.int b)]/\2<=b/\b<=36/\L<=90000/\((f=0/\L=1)\/M.Fr b f L)/\R (.rd (.int (mj b f L))) as
theorem MN (T:Zs K mg cs):Ok P w base 1 T.cL S_f:=by
 refine T.cL.F.gU G3 (λas R h=>?_) (λcdv A outer s H E C as R hK hr h=>?_)
 ·obtain ⟨_,_,_,rfl,_⟩:=h;rfl
 have hu:=hr.units
 obtain ⟨f,L,b,rfl,b0,b1,l1,hf,q⟩:=h
 -- the En that come again
 obtain ⟨ts,hts,Fg,hl0,B⟩:∃ts:List Int,((∀d∈ts,0<=d/\d<b)/\(ts=[]\/ts.head?≠some 0)/\(mj b f L=M.val b ts.reverse+f * b ^ ts.length))/\∃Fg:Int,Fg=M.val b ts/\(if L % 2=0 then f else f / b)=Fg:=by
  rcases hf with ⟨rfl,rfl⟩|F
  ·exact ⟨[],⟨λd hd=>absurd hd xt,.inl rfl,by simp [mj,M.val]⟩,0,rfl,by simp⟩
  ·have d:=M.cT b0 (show 0<=f by have:=F.pos;omega)
   have hl:=F.len
   have hd:=d.pos (by have:=F.pos;omega)
   have hL:=F.L1
   refine ⟨(M.fg b f).take (L / 2),⟨λx Z=>d.jD x (xn Z),?_,?_⟩,_,rfl,?_⟩
   ·match M.fg b f,L / 2,hd with
    | x::r,0,_=>exact .inl rfl
    | [],_,_=>exact .inl (by simp)
    | x::r,k+1,hd=>exact .inr (by simpa using hd)
   ·have hz:f≠0:=by have:=F.pos;omega
    unfold mj
    rw [zi hz]
    unfold M.fG
    rw [M.vm,d.val,yT]
    omega
   ·by_cases Y:L % 2=0
    ·rw [zo Y]
     have e:L / 2=(M.fg b f).length:=by rw [hl];unfold M.hf;omega
     rw [e,List.take_length,d.val]
    ·rw [zi Y]
     have e:L / 2=(M.fg b f).length - 1:=by rw [hl];unfold M.hf;omega
     have:=(M.oU b0 d 1 (by rw [hl];unfold M.hf;omega)).1
     rw [zL,xB,xf] at this
     rw [e];exact this
 obtain ⟨tr,th,tv⟩:=hts
 refine ⟨_,(bf (aL (i:=3) G3.nd rfl lc (qv 0))
    (bf (aL (i:=4) G3.nd rfl lc (uM (jJ hK hu (YW (qv 1) qi) qi) (qv 0) (ji (qv 0) (qv 2))))
    (bf (JL zO (xK (qv 4) qi) (bf (jM (tW rfl T.Ak (a2 (qv 4) (qv 2))) (qQ (n:=2) hK rfl (bx (aO (i:=4) G3.nd rfl lc) (bx (aO (i:=5) G3.nd rfl lc) iy))))
    (aQ (aL (i:=3) G3.nd rfl lc (cG (jH (qv 3) (qv 2)) (qv 5))))))
    (sr (qv 3))))),?_⟩
 refine cj ?_
 simp only [R]
 refine xX (λp=>p=[some (.d (.int f)),some (.d (.int (L:Int))),some (.d (.int b)),some (.d (.int f)),some (.d (.int Fg)),none]) (λk hk=>?_) ?_
 ·simp only [Q]
  rw [Q9]
  refine mL (λc=>?_) (λc=>?_)
  ·rw [zo (by omega)] at B
   rw [<-B] at hk
   exact hk _ rfl
  ·rw [zi (by omega)] at B
   rw [<-B] at hk
   exact ⟨by omega,.inl (by omega),hk _ rfl⟩
 rintro p rfl
 refine cj ?_
 obtain ⟨I,hI⟩:∃I:aG->Prop,I=(λp=>∃(O vs:List Int) (v:Option D),ts=O++vs/\p=[some (.d (.int f)),some (.d (.int (L:Int))),some (.d (.int b)),some (.d (.int (f * b ^ vs.length+M.val b vs.reverse))),some (.d (.int (M.val b O))),Option.map Sl.d v]):=⟨_,rfl⟩
 refine mW I (λp=>match p[4]? with|some (some (Sl.d (D.int r)))=>r.toNat|_=>0) (by rw [hI];exact ⟨ts,[],none,by simp,by rw [hl0];simp [M.val]⟩) ?_
 intro p Y
 rw [hI] at Y
 obtain ⟨O,vs,v,e,rfl⟩:=Y
 have U:∀d∈O,0<=d/\d<b:=λd hd=>tr d (by rw [e];exact yQ _ hd)
 have u0:=M.jU (show 0<=b by omega) U
 simp only [Hh]
 refine jk (λc=>?_) (λc=>?_)
 ·have hne:O≠[]:=by intro z;rw [z] at c;exact absurd c (by show ¬(0:Int)<0;decide)
  obtain ⟨J,d,rfl⟩:=Pu O hne
  have hd:=U d (by simp)
  obtain ⟨m1,m2⟩:=M.val_mod (xs:=J) hd
  have:=Int.ediv_lt_self_of_pos_of_ne_one c (show b≠1 by omega)
  have:=M.jU (show 0<=b by omega) (xs:=J) (λx Z=>U x (yQ _ Z))
  simp only [Hh]
  refine ⟨⟨by omega,by omega⟩,?_⟩
  simp only [Hh]
  refine ⟨.inr ⟨by omega,by omega⟩,?_⟩
  simp only [Hh]
  refine ⟨?_,show (M.val b (J++[d]) / b).toNat<(M.val b (J++[d])).toNat by omega⟩
  rw [hI]
  refine ⟨J,d::vs,some (.int d),by rw [e];simp,?_⟩
  have ev:(f * b ^ vs.length+M.val b vs.reverse) * b+d=f * b ^ (vs.length+1)+M.val b (vs.reverse++[d]):=by rw [M.gF,zL,Int.add_mul,xF,<-Int.add_assoc]
  rw [m1,m2,yu,zJ,<-ev]
  rfl
 ·have hz:O=[]:=by
   match O,e,U,c with
   | [],_,_,_=>rfl
   | x::r,e,U,c=>
    exfalso
    have Z:=U x zn
    have x0:x≠0:=by
     rcases th with z|z
     ·rw [e] at z;simp at z
     ·rw [e] at z;simpa using z
    rw [M.dN] at c
    have h1:=M.jU (show 0<=b by omega) (xs:=r) (λy hy=>U y (zr _ hy))
    have p:=M.au (show 0<b by omega) r.length
    have:=zB (show 1<=x by omega) (show 0<=b ^ r.length by omega)
    omega
  rw [hz,List.nil_append] at e
  rw [e] at tv
  have:f * b ^ vs.length+M.val b vs.reverse=mj b f L:=by rw [tv];omega
  simp only [Hh]
  rw [<-this] at q
  exact q
def lnz (b n:Int):Nat:=if n=0 then 1 else M.ln b n
def Df (b n:Int):Int:=if n=0 then 0 else n / b ^ (M.ln b n / 2)
def Xd (b n:Int):Int:=if n=0 then 0 else M.fG b (n / b ^ (M.ln b n / 2)) (M.ln b n)
theorem ln0 {b:Int} (n:2<=b):M.ln b 0=1:=by unfold M.ln;rw [M.m7 n];rfl
def adM:eE:=λas R=>∃n b:Int,as=[.d (.int n),.d (.int b)]/\0<=n/\n<M.vh/\2<=b/\b<=36/\R (.rd (.tup [.int (M.ln b n:Int),.int (Df b n),.int (Xd b n)])) as
theorem SQ (T:Zs K mg cs):Ok P w base 4 T.nG adM:=by
 have G_S:=aar P w base T
 have Y:=MK P w base T
 have Z:=MN P w base T
 refine T.nG.F.gU Mt (λas R h=>?_) (λcdv A outer s H E C as R J I h=>?_)
 ·obtain ⟨_,_,rfl,_⟩:=h;rfl
 have hu:=I.units
 obtain ⟨n,b,rfl,B,n1,z,O,q⟩:=h
 have l1:=M.Ag z B n1
 have l0:=M.dF z B
 have el:(List.map D.int (M.fg b n)).length=M.ln b n:=by rw [z9];rfl
 have hp:b ^ (M.ln b n / 2)<2 ^ 4000:=by
  by_cases q:M.ln b n=1
  ·rw [q]
   have:(1:Int)<2 ^ 4000:=by decide
   simpa using this
  ·exact M.pw_big z B n1 (k:=M.ln b n / 2) (by omega)
 refine ⟨_,(bf (aL (i:=2) Mt.nd rfl lc (dH J rfl T.fK (a1 (aq (aj J T.eU Y I.m (a2 (qv 0) (qv 1)))))))
    (bf (aL (i:=3) Mt.nd rfl lc (aq (aj J T.jy G_S I.m (a3 (qv 0) (qv 2) (qv 1)))))
    (sr (DY (a3 (qv 2) (qv 3) (aq (aj J T.cL Z I.m (cA (qv 3) (cA (qv 2) (a1 (qv 1))))))))))),?_⟩
 simp only [Hh]
 refine ⟨B,n1,z,O,?_⟩
 simp only [Hh]
 rw [el]
 refine ⟨z,O,by omega,hp,?_⟩
 simp only [Hh]
 by_cases U:n=0
 ·subst U
  have e2:(0:Int) / b ^ (M.ln b 0 / 2)=0:=by simp
  rw [e2]
  rw [ln0 z] at *
  refine ⟨z,O,by omega,.inl ⟨rfl,rfl⟩,?_⟩
  simp only [Hh]
  exact q
 ·have F:=M.bH z (by omega:1<=n)
  refine ⟨z,O,by omega,.inr F,?_⟩
  simp only [Hh]
  have e3:mj b (n / b ^ (M.ln b n / 2)) (M.ln b n)=Xd b n:=by
   unfold mj Xd
   rw [zi (by have:=F.pos;omega),zi U]
  have e4:n / b ^ (M.ln b n / 2)=Df b n:=by unfold Df;rw [zi U]
  rw [e3,e4]
  exact q
def S_E:eE:=λas R=>∃n b:Int,as=[.d (.int n),.d (.int b)]/\0<=n/\n<M.vh/\2<=b/\b<=36/\∀m,M.AM b n m->R (.rd (.int m)) as
theorem Q_ {b:Int} (n:2<=b):M.AM b 0 0:=⟨M.dO (by decide) (by omega),by decide,λk _ h=>h⟩
theorem Ra {b:Int} (n:2<=b):M.AL b 0 0:=⟨M.dO (by decide) (by omega),by decide,λk _ h=>h⟩
theorem Xe (T:Zs K mg cs):Ok P w base 5 T.i_ S_E:=by
 have Aq:=jY P w base T
 have J:=SQ P w base T
 have G_f:=MN P w base T
 have Xf:=Q8 P w base T
 have G_K:=Q7 P w base T
 refine T.i_.F.gU QM (λas R h=>?_) (λcdv A outer s H E C as R B D h=>?_)
 ·obtain ⟨_,_,rfl,_⟩:=h;rfl
 have hu:=D.units
 obtain ⟨n,b,rfl,U,n1,z,I,q⟩:=h
 have l1:=M.Ag z U n1
 have l0:=M.dF z U
 refine ⟨_,(bf (qO (aq (aj B T.aJ Aq D.m (a1 (qv 1)))))
    (bf (jM (aq (aj B T.nG J D.m (a2 (qv 0) (qv 1)))) (qQ (n:=3) B rfl (bx (aO (i:=2) QM.nd rfl lc) (bx (aO (i:=3) QM.nd rfl lc) (bx (aO (i:=4) QM.nd rfl lc) iy)))))
    (bf (bD (ab5 (qv 4) (qv 0)) (sr (qv 4)) aR)
    (bf (bD (jJ B hu (qv 3) (aq (aj B T.cQ Xf D.m (a2 (qv 2) (qv 1))))) (sr (bQ (aq (aj B T.jw G_K D.m (a2 (qv 1) (bQ (qv 2) qi)))) qi)) aR)
    (aQ (cH (aj B T.cL G_f D.m (a3 (bQ (qv 3) qi) (qv 2) (qv 1))))))))),?_⟩
 simp only [Hh]
 refine ⟨z,I,?_⟩
 simp only [Hh]
 refine ⟨U,n1,z,I,?_⟩
 simp only [Hh]
 by_cases Y:n=0
 ·subst Y
  refine jk (λ_=>?_) (λc=>absurd (yn 0) c)
  simp only [Hh]
  exact q _ (Q_ z)
 have O:1<=n:=by omega
 have F:=M.bH z O
 have e1:Xd b n=M.fG b (n / b ^ (M.ln b n / 2)) (M.ln b n):=by unfold Xd;rw [zi Y]
 have e2:Df b n=n / b ^ (M.ln b n / 2):=by unfold Df;rw [zi Y]
 rw [e1,e2]
 refine jk (λc=>?_) (λc=>?_)
 ·simp only [Hh]
  exact q _ (M.Ln z O c)
 simp only [Hh]
 refine ⟨by omega,I,by omega,?_⟩
 simp only [Hh]
 refine K_ (λZ=>?_) (λZ=>?_)
 ·simp only [Hh]
  refine ⟨by omega,I,by omega,by omega,?_⟩
  simp only [Hh]
  rw [show ((M.ln b n:Int) - 1).toNat=M.ln b n - 1 by omega]
  exact q _ (M.Lp z O (by omega) Z)
 ·have F1:M.Fr b (n / b ^ (M.ln b n / 2) - 1) (M.ln b n):=⟨z,F.L1,by have:=F.lo;omega,by have:=F.hi;omega⟩
  simp only [Hh]
  refine ⟨z,I,by omega,.inr F1,?_⟩
  have e3:mj b (n / b ^ (M.ln b n / 2) - 1) (M.ln b n)=M.fG b (n / b ^ (M.ln b n / 2) - 1) (M.ln b n):=by
   unfold mj;rw [zi (by have:=F1.pos;omega)]
  rw [e3]
  exact q _ (M.Qw z O (by omega) Z)
def S_R:eE:=λas R=>∃n b:Int,as=[.d (.int n),.d (.int b)]/\0<=n/\n<M.vh/\2<=b/\b<=36/\∀m,M.AL b n m->R (.rd (.int m)) as
theorem adO (T:Zs K mg cs):Ok P w base 5 T.lZ S_R:=by
 have Z:=jY P w base T
 have B:=SQ P w base T
 have Y:=MN P w base T
 refine T.lZ.F.gU QV (λas R h=>?_) (λcdv A outer s H E C as R I D h=>?_)
 ·obtain ⟨_,_,rfl,_⟩:=h;rfl
 have hu:=D.units
 obtain ⟨n,b,rfl,J,n1,z,U,q⟩:=h
 have l1:=M.Ag z J n1
 have l0:=M.dF z J
 refine ⟨_,(bf (qO (aq (aj I T.aJ Z D.m (a1 (qv 1)))))
    (bf (jM (aq (aj I T.nG B D.m (a2 (qv 0) (qv 1)))) (qQ (n:=3) I rfl (bx (aO (i:=2) QV.nd rfl lc) (bx (aO (i:=3) QV.nd rfl lc) (bx (aO (i:=4) QV.nd rfl lc) iy)))))
    (bf (bD (Gm (qv 4) (qv 0)) (sr (qv 4)) aR)
    (aQ (cH (aj I T.cL Y D.m (a3 (cG (qv 3) qi) (qv 2) (qv 1)))))))),?_⟩
 simp only [Hh]
 refine ⟨z,U,?_⟩
 simp only [Hh]
 refine ⟨J,n1,z,U,?_⟩
 simp only [Hh]
 by_cases O:n=0
 ·subst O
  refine jk (λ_=>?_) (λc=>absurd (yn 0) c)
  simp only [Hh]
  exact q _ (Ra z)
 have hn:1<=n:=by omega
 have e1:Xd b n=M.fG b (n / b ^ (M.ln b n / 2)) (M.ln b n):=by unfold Xd;rw [zi O]
 have e2:Df b n=n / b ^ (M.ln b n / 2):=by unfold Df;rw [zi O]
 rw [e1,e2]
 refine jk (λc=>?_) (λc=>?_)
 ·simp only [Hh]
  exact q _ (M.Lq z hn c)
 obtain ⟨F1,h1⟩:=M.Qx z hn (by omega)
 simp only [Hh]
 refine ⟨z,U,by omega,.inr F1,?_⟩
 have e3:mj b (n / b ^ (M.ln b n / 2)+1) (M.ln b n)=M.fG b (n / b ^ (M.ln b n / 2)+1) (M.ln b n):=by
  unfold mj;rw [zi (by have:=F1.pos;omega)]
 rw [e3]
 exact q _ h1
def S_m:eE:=λas R=>∃(L:Nat) (b:Int),as=[.d (.int (L:Int)),.d (.int b)]/\0<=b/\b<=36/\L<=90000/\R (.rd (.int (M.ue b L))) as
theorem aat (T:Zs K mg cs):Ok P w base 2 T.cJ S_m:=by
 have n:=Q7 P w base T
 refine T.cJ.F.gU adt (λas R h=>?_) (λJ A outer s H E C as R B z h=>?_)
 ·obtain ⟨_,_,rfl,_⟩:=h;rfl
 have U:=z.units
 obtain ⟨L,b,rfl,I,D,O,q⟩:=h
 refine ⟨_,(sr (bQ (cG (bQ (aq (aj B T.jw n z.m (a2 (qv 1) (ji (cG (qv 0) qi) qi)))) qi) (aq (aj B T.jw n z.m (a2 (qv 1) (ji (qv 0) qi))))) qi)),?_⟩
 simp only [Hh]
 refine ⟨I,D,by omega,by omega,?_⟩
 simp only [Hh]
 refine ⟨I,D,by omega,by omega,?_⟩
 simp only [Hh]
 rw [show (((L:Int)+1) / 2).toNat=M.hf L by unfold M.hf;omega,show ((L:Int) / 2).toNat=L / 2 by omega]
 exact q
def S_J:eE:=λas R=>∃n b:Int,as=[.d (.int n),.d (.int b)]/\M.Mp b n/\n<M.vh/\2<=b/\b<=36/\R (.rd (.int (M.pl b n))) as
theorem aau (T:Zs K mg cs):Ok P w base 5 T.jz S_J:=by
 have Aq:=jY P w base T
 have G_i:=Q6 P w base T
 have Z:=MK P w base T
 have G_S:=aar P w base T
 have Xf:=Q8 P w base T
 have G_m:=aat P w base T
 refine T.jz.F.gU W6 (λas R h=>?_) (λcdv A outer s H E C as R z B h=>?_)
 ·obtain ⟨_,_,rfl,_⟩:=h;rfl
 have hu:=B.units
 obtain ⟨n,b,rfl,mp,n1,I,J,q⟩:=h
 have O:=mp.1
 have l1:=M.Ag I O n1
 have l0:=M.dF I O
 have el:(List.map D.int (M.fg b n)).length=M.ln b n:=by rw [z9];rfl
 refine ⟨_,(bf (qO (aq (aj z T.aJ Aq B.m (a1 (qv 1)))))
    (bf (bD (d7 (fu (aq (aj z T.cR G_i B.m (a2 (qv 0) (qv 1)))))) (aQ qP) aR)
    (bf (bD (jJ z hu (qv 0) qi) (sr qi) aR)
    (bf (aL (i:=2) W6.nd rfl lc (dH z rfl T.fK (a1 (aq (aj z T.eU Z B.m (a2 (qv 0) (qv 1)))))))
    (bf (aL (i:=3) W6.nd rfl lc (bQ (aq (aj z T.jy G_S B.m (a3 (qv 0) (qv 2) (qv 1)))) (aq (aj z T.cQ Xf B.m (a2 (qv 2) (qv 1))))))
    (sr (cG (cG (aq (aj z T.cJ G_m B.m (a2 (bQ (qv 2) qi) (qv 1)))) (qv 3)) qi))))))),?_⟩
 simp only [Hh]
 refine ⟨I,J,?_⟩
 simp only [Hh]
 refine ⟨O,n1,I,J,?_⟩
 simp only [Hh]
 rw [mp.2]
 simp only [Hh]
 refine K_ (λU=>?_) (λU=>?_)
 ·simp only [Hh]
  unfold M.pl at q
  rw [zo U] at q
  exact q
 have Y:b ^ (M.ln b n / 2)<2 ^ 4000:=by
  by_cases q:M.ln b n=1
  ·rw [q]
   have:(1:Int)<2 ^ 4000:=by decide
   simpa using this
  ·exact M.pw_big I O n1 (by omega)
 simp only [Hh]
 refine ⟨O,n1,I,J,?_⟩
 simp only [Hh]
 rw [el]
 refine ⟨I,J,by omega,Y,?_⟩
 simp only [Hh]
 refine ⟨by omega,J,by omega,?_⟩
 simp only [Hh]
 refine ⟨M.ln b n - 1,b,?_,by omega,J,by omega,?_⟩
 ·rw [show ((M.ln b n - 1:Nat):Int)=(M.ln b n:Int) - 1 by omega]
 simp only [Hh]
 unfold M.pl at q
 rw [zi U] at q
 exact q
def adQ:eE:=λas R=>∃n b:Int,as=[.d (.int n),.d (.int b)]/\0<=n/\n<M.vh/\2<=b/\b<=36/\R (.rd (.int (M.cnt b n))) as
theorem aav (T:Zs K mg cs):Ok P w base 6 T.oX adQ:=by
 have O:=jY P w base T
 have U:=aau P w base T
 have Y:=Xe P w base T
 refine T.oX.F.gU aaj (λas R h=>?_) (λcdv A outer s H E C as R I z h=>?_)
 ·obtain ⟨_,_,rfl,_⟩:=h;rfl
 have hu:=z.units
 obtain ⟨n,b,rfl,Z,n1,B,J,q⟩:=h
 refine ⟨_,(bf (qO (aq (aj I T.aJ O z.m (a1 (qv 1)))))
    (aQ (cH (aj I T.jz U z.m (a2 (aq (aj I T.i_ Y z.m (a2 (qv 0) (qv 1)))) (qv 1)))))),?_⟩
 simp only [Hh]
 refine ⟨B,J,?_⟩
 simp only [Hh]
 refine ⟨Z,n1,B,J,λm D=>?_⟩
 simp only [Hh]
 refine ⟨D.mp,by have:=D.le;omega,B,J,?_⟩
 rw [M.lV B Z D]
 exact q
theorem Rb {b:Int} (n:2<=b) {L:Nat} (hL:200<=L):(10:Int) ^ 25<M.ue b L:=by
 have h1:=M.gG n 100
 have h2:=M.bz (b:=b) (by omega) (show 100<=M.hf L by unfold M.hf;omega)
 have z:=M.au (show 0<b by omega) (L / 2)
 have:(10:Int) ^ 25+1<2 ^ 100:=by decide
 unfold M.ue
 omega
theorem Ar {b c:Int} (h0:0<=b) (h:b<=c):∀k:Nat,b ^ k<=c ^ k
 | 0=>by simp
 | k+1=>by
  rw [zL,zL]
  have n:=Ar h0 h k
  have:0<=b ^ k:=Int.pow_nonneg h0
  exact yO n h h0 (by omega)
def S_B:eE:=λas R=>∃n b:Int,as=[.d (.int n),.d (.int b)]/\0<=n/\n<=10 ^ 25/\2<=b/\b<=36/\∀m,M.Mp b m->M.pl b m=n->m<M.Mid->R (.rd (.int m)) as
theorem adR (T:Zs K mg cs):Ok P w base 3 T.iD S_B:=by
 have Aq:=jY P w base T
 have G_f:=MN P w base T
 have Z:=aat P w base T
 have Xf:=Q8 P w base T
 refine T.iD.F.gU QX (λas R h=>?_) (λcdv A outer s H E C as R J B h=>?_)
 ·obtain ⟨_,_,rfl,_⟩:=h;rfl
 have hu:=B.units
 obtain ⟨n,b,rfl,n0,n1,Y,O,q⟩:=h
 have B0:(0:Int)<M.Mid:=M.WD (by decide)
 refine ⟨_,(bf (qO (aq (aj J T.aJ Aq B.m (a1 (qv 1)))))
    (bf (bD (jJ J hu (qv 0) qi) (sr qi) aR)
    (bf (aL (i:=2) QX.nd rfl lc qi)
    (bf (JL zO (sS (aq (aj J T.cJ Z B.m (a2 (qv 2) (qv 1)))) (qv 0)) (aQ (Y6 (i:=2) QX.nd rfl lc qi)))
    (bf (aL (i:=3) QX.nd rfl lc (bQ (bQ (qv 0) (aq (aj J T.cJ Z B.m (a2 (bQ (qv 2) qi) (qv 1))))) qi))
    (aQ (cH (aj J T.cL G_f B.m (a3 (cG (aq (aj J T.cQ Xf B.m (a2 (qv 2) (qv 1)))) (qv 3)) (qv 2) (qv 1)))))))))),?_⟩
 simp only [Hh]
 refine ⟨Y,O,?_⟩
 simp only [Hh]
 refine K_ (λhz=>?_) (λhz=>?_)
 ·simp only [Hh]
  subst hz
  exact q 0 (M.dO (by decide) (by omega)) (by unfold M.pl;rw [zo rfl]) B0
 simp only [Hh]
 dsimp only
 refine xX (λp=>∃L:Nat,1<=L/\L<=200/\M.ue b (L - 1)<n/\n<=M.ue b L/\p=[some (.d (.int n)),some (.d (.int b)),some (.d (.int (L:Int))),none]) (λk hk=>?_) ?_
 ·obtain ⟨I,hI⟩:∃I:aG->Prop,I=(λp=>∃L:Nat,1<=L/\L<=200/\M.ue b (L - 1)<n/\p=[some (.d (.int n)),some (.d (.int b)),some (.d (.int (L:Int))),none]):=⟨_,rfl⟩
  refine mW I (λp=>match p[2]? with|some (some (Sl.d (D.int r)))=>(200 - r).toNat|_=>0) (by rw [hI];exact ⟨1,by decide,by decide,by simp [M.ue,M.hf];omega,rfl⟩) ?_
  intro p hp
  rw [hI] at hp
  obtain ⟨L,L1,L2,U,rfl⟩:=hp
  simp only [Hh]
  refine ⟨by omega,O,by omega,?_⟩
  simp only [Hh]
  refine jk (λc=>?_) (λc=>?_)
  ·have h3:L≠200:=λz=>by
    have:=Rb Y (L:=L) (by omega)
    omega
   simp only [Hh]
   refine ⟨?_,show (200 - ((L:Int)+1)).toNat<(200 - (L:Int)).toNat by omega⟩
   rw [hI]
   exact ⟨L+1,by omega,by omega,by rw [yh];exact c,rfl⟩
  ·exact hk _ ⟨L,L1,L2,U,by omega,rfl⟩
 rintro p ⟨L,L1,L2,U,hle,rfl⟩
 have ms:=M.rH (b:=b) L1
 have F:M.Fr b (b ^ (M.hf L - 1)+(n - M.ue b (L - 1) - 1)) L:=⟨Y,L1,by omega,by omega⟩
 have hB:M.fG b (b ^ (M.hf L - 1)+(n - M.ue b (L - 1) - 1)) L<M.Mid:=by
  have h1:=M.gH Y F.vo
  rw [F.ln] at h1
  have h2:=Ar (show 0<=b by omega) O L
  have h3:=M.bz (b:=36) (by decide) L2
  have h4:(36:Int) ^ 200<M.Mid:=by unfold M.Mid;decide
  omega
 simp only [Hh]
 refine ⟨L - 1,b,?_,by omega,O,by omega,?_⟩
 ·rw [show ((L - 1:Nat):Int)=(L:Int) - 1 by omega]
 simp only [Hh]
 refine ⟨by omega,O,by omega,?_⟩
 simp only [Hh]
 refine ⟨Y,O,by omega,.inr F,?_⟩
 have e3:mj b (b ^ (M.hf L - 1)+(n - M.ue b (L - 1) - 1)) L=M.fG b (b ^ (M.hf L - 1)+(n - M.ue b (L - 1) - 1)) L:=by
  unfold mj;rw [zi (by have:=F.pos;omega)]
 rw [e3]
 exact q _ F.mp (by rw [F.pl];omega) hB
def X5:eE:=λas R=>∃n b:Int,as=[.d (.int n),.d (.int b)]/\0<=n/\n<=10 ^ 6/\2<=b/\b<=36/\R (.ro ((M.aX b n).map D.int)) as
theorem MP (T:Zs K mg cs):Ok P w base 4 T.cC X5:=by
 have Xf:=Q8 P w base T
 have G_f:=MN P w base T
 have G_q:=MK P w base T
 refine T.cC.F.gU G4 (λas R h=>?_) (λcdv A outer s H E C as R hK hr h=>?_)
 ·obtain ⟨_,_,rfl,_⟩:=h;rfl
 have hu:=hr.units
 obtain ⟨n,b,rfl,n0,n1,B,b1,q⟩:=h
 have nB:n<M.vh:=M.CN (yz n1 (by decide))
 have l0:=M.dF B n0
 have l1:=M.Ag B n0 nB
 have hl:(M.fg b n).length=M.ln b n:=rfl
 have nl:=M.gH B n0
 have adS:∀m:Int,0<=m->m<=n->(M.aX b m).length<80000:=λm O m1=>by
  have h1:=M.m8 b m
  have h2:=M.vp B b1 O (by omega)
  omega
 have bL:b ^ M.ln b n<=36 * 10 ^ 6+36:=by
  by_cases hz:n=0
  ·have e:M.ln b n=1:=by rw [hz];unfold M.ln;rw [M.m7 B];rfl
   rw [e,M.rF]
   omega
  ·have g:=M.fD B (show 1<=n by omega)
   obtain ⟨j,hj⟩:∃j,M.ln b n=j+1:=⟨M.ln b n - 1,by omega⟩
   rw [hj] at g ⊢
   rw [yh] at g
   rw [zL]
   have h1:b ^ j * b<=n * b:=zB g (by omega)
   have h2:n * b<=10 ^ 6 * 36:=yO n1 b1 (by omega) (by decide)
   omega
 refine ⟨_,(bf (lE (i:=2) G4.nd rfl lc (dG pq))
    (bf (jO zO rfl (qR rfl T.e_ (a2 qi (cG (dH hK rfl T.fK (a1 (aq (aj hK T.eU G_q hr.m (cA (qv 0) (a1 (qv 1))))))) qi))) (aO (i:=3) G4.nd rfl lc) (bf (aL (i:=4) G4.nd rfl lc (aq (aj hK T.cQ Xf hr.m (a2 (qv 3) (qv 1)))))
    (aQ (jO zO rfl (qR rfl T.e_ (a2 (qv 4) (jH (qv 4) (qv 1)))) (aO (i:=5) G4.nd rfl lc) (bf (aL (i:=6) G4.nd rfl lc (aq (aj hK T.cL G_f hr.m (a3 (qv 5) (qv 3) (qv 1)))))
    (bf (bD (xK (qv 6) (qv 0)) (aQ (oE (i:=2) (pv 2))) aR)
    (aQ (qO (jL hK (pv 2) (a1 (qv 6)))))))))))
    (aQ (oE (i:=2) (pv 2))))),?_⟩
 refine cj ?_
 simp only [R]
 obtain ⟨I,hI⟩:∃I:Nat->aG->Prop,I=(λi p=>∃w3 w4 Z Y:Option D,b ^ i - 1<=n/\p=[some (.d (.int n)),some (.d (.int b)),some (.own ((M.aX b (b ^ i - 1)).map D.int)),Option.map Sl.d w3,Option.map Sl.d w4,Option.map Sl.d Z,Option.map Sl.d Y]):=⟨_,rfl⟩
 refine cj (R0 ?_)
 simp only [R,S_q,z9,hl]
 have eL:((M.ln b n:Int)+1 - 1).toNat=M.ln b n:=by omega
 rw [eL]
 refine ⟨n0,nB,B,b1,by omega,by omega,I,by rw [hI];exact ⟨none,none,none,none,by rw [xB];omega,by rw [xB];rfl⟩,?_,?_⟩
 ·intro i p hi U
  rw [hI] at U
  obtain ⟨w3,w4,Z,Y,hle,rfl⟩:=U
  have ei:(1:Int)+i=((i+1:Nat):Int):=by omega
  rw [ei]
  have i0:1<=i+1:=by omega
  have h0:=M.rG i0
  have pw:=M.au (show 0<b by omega) (M.hf (i+1) - 1)
  obtain ⟨cn,hcn⟩:∃cn:Nat,(cn:Int)=b ^ M.hf (i+1) - b ^ (M.hf (i+1) - 1):=⟨(b ^ M.hf (i+1) - b ^ (M.hf (i+1) - 1)).toNat,by
   have:=M.bz (b:=b) (by omega) (show M.hf (i+1) - 1<=M.hf (i+1) by omega)
   omega⟩
  have eb:b ^ (M.hf (i+1) - 1) * b=b ^ M.hf (i+1):=by rw [<-zL];congr 1;omega
  simp only [R]
  refine cj ?_
  simp only [R,S_j]
  refine ⟨by omega,b1,by omega,?_⟩
  refine R0 ?_
  simp only [R,eb]
  have bg1:=M.bz (b:=b) (by omega) (show M.hf (i+1)<=M.ln b n by unfold M.hf;omega)
  have bg2:=M.bz (b:=b) (by omega) (show M.hf (i+1) - 1<=M.hf (i+1) by omega)
  have ec:(b ^ M.hf (i+1) - b ^ (M.hf (i+1) - 1)).toNat=cn:=by omega
  have c1:1<=cn:=by
   have:=yo B (show 0<=b ^ (M.hf (i+1) - 1) by omega)
   omega
  rw [ec]
  obtain ⟨J,hJ⟩:∃J:Nat->aG->Prop,J=(λ(j:Nat) p=>∃(O:Int) (Z Y:Option D),(j=0->O=b ^ i - 1)/\(1<=j->O=M.fG b (b ^ (M.hf (i+1) - 1)+(j:Int) - 1) (i+1))/\O<=n/\M.Mp b O/\p=[some (.d (.int n)),some (.d (.int b)),some (.own ((M.aX b O).map D.int)),some (.d (.int ((i+1:Nat):Int))),some (.d (.int (b ^ (M.hf (i+1) - 1)))),Option.map Sl.d Z,Option.map Sl.d Y]):=⟨_,rfl⟩
  refine ⟨.inr ⟨by omega,by omega⟩,by omega,by omega,by omega,by omega,J,by rw [hJ];exact ⟨b ^ i - 1,Z,Y,λ_=>rfl,λz=>absurd z (by decide),hle,M.iU B i,rfl⟩,?_,?_⟩
  ·intro j p hj U
   rw [hJ] at U
   obtain ⟨O,Z,Y,e1,e2,hm,mp,rfl⟩:=U
   have F:M.Fr b (b ^ (M.hf (i+1) - 1)+(j:Int)) (i+1):=⟨B,i0,by omega,by omega⟩
   have e3:mj b (b ^ (M.hf (i+1) - 1)+(j:Int)) (i+1)=M.fG b (b ^ (M.hf (i+1) - 1)+(j:Int)) (i+1):=by
    unfold mj;rw [zi (by have:=F.pos;omega)]
   have nx:M.Nx b O (M.fG b (b ^ (M.hf (i+1) - 1)+(j:Int)) (i+1)):=by
    by_cases z:j=0
    ·rw [e1 z,z]
     have:=M.Lx B i0
     rw [yh] at this
     rw [show b ^ (M.hf (i+1) - 1)+((0:Nat):Int)=b ^ (M.hf (i+1) - 1) by omega]
     exact this
    ·rw [e2 (by omega)]
     have F0:M.Fr b (b ^ (M.hf (i+1) - 1)+(j:Int) - 1) (i+1):=⟨B,i0,by omega,by omega⟩
     have F1:M.Fr b (b ^ (M.hf (i+1) - 1)+(j:Int) - 1+1) (i+1):=by rw [Int.sub_add_cancel];exact F
     have:=M.ZZ F0 F1
     rw [Int.sub_add_cancel] at this
     exact this
   have st:=M.Lw mp nx
   have mp2:=F.mp
   have ln6:=adS O mp.1 hm
   generalize hG:M.fG b (b ^ (M.hf (i+1) - 1)+(j:Int)) (i+1)=m at *
   simp only [Hh]
   refine ⟨B,b1,by omega,.inr F,?_⟩
   rw [e3]
   simp only [Hh]
   refine jk (λc=>?_) (λc=>?_)
   ·simp only [Hh]
    rw [M.Et mp nx hm c] at q
    exact q
   ·simp only [Hh]
    refine ⟨by rw [z9];omega,?_⟩
    simp only [Hh]
    show J (j+1) _
    rw [hJ]
    refine ⟨m,some (.int (b ^ (M.hf (i+1) - 1)+(j:Int))),some (.int m),λz=>absurd z (by omega),λ_=>?_,by omega,mp2,?_⟩
    ·rw [<-hG];congr 1;push_cast;omega
    ·rw [st,yp];rfl
  ·intro p U
   rw [hJ] at U
   obtain ⟨O,Z,Y,e1,e2,hm,mp,rfl⟩:=U
   have e3:O=b ^ (i+1) - 1:=by
    rw [e2 c1,show b ^ (M.hf (i+1) - 1)+(cn:Int) - 1=b ^ M.hf (i+1) - 1 by omega]
    exact (M.ud B i0).2
   rw [hI]
   subst e3
   exact ⟨some (.int ((i+1:Nat):Int)),some (.int (b ^ (M.hf (i+1) - 1))),Z,Y,hm,rfl⟩
 ·intro p U
  rw [hI] at U
  obtain ⟨w3,w4,Z,Y,hle,rfl⟩:=U
  have e:b ^ M.ln b n - 1=n:=by omega
  rw [e]
  simp only [Hh]
  exact q
def S_X:eE:=λas R=>∃B z n k:Int,as=[.d (.int B),.d (.int z),.d (.int n),.d (.int k)]/\0<=B/\B<=2000/\0<=z/\z<=2000/\0<=n/\n<=2000/\0<=k/\k<=2000 /\
 R (.ro ((oK (B+z - 1) ((if n - k+z<B * z then n - k+z else B * z)+1 - (B+z - 1)).toNat).map D.int)) as
theorem aaw (T:Zs K mg cs):Ok P w base 1 T.nF S_X:=by
 refine T.nF.F.gU adg (λas R h=>?_) (λY A outer s H E C as R hK U h=>?_)
 ·obtain ⟨_,_,_,_,rfl,_⟩:=h;rfl
 have hu:=U.units
 obtain ⟨B,size,n,k,rfl,p0,O,I,J,n0,n1,k0,k1,q⟩:=h
 have m0:0<=B * size:=Int.mul_nonneg p0 I
 have m1:B * size<=2000 * 2000:=yO O J I (by decide)
 refine ⟨_,(aQ (cH (Cr rfl rfl T.W0 rfl T.e_ (a2 (bQ (cG (qv 0) (qv 1)) qi) (cG (Vn rfl rfl T.Z9 (a2 (jH (qv 0) (qv 1)) (cG (bQ (qv 2) (qv 3)) (qv 1)))) qi))))),?_⟩
 simp only [R]
 obtain ⟨z,D⟩:∃z,z=(if n - k+size<B * size then n - k+size else B * size):=⟨_,rfl⟩
 have z1:z<=4000:=by rw [D];split<;>omega
 have Z:-2000<=z:=by rw [D];split<;>omega
 rw [<-D] at q ⊢
 refine ⟨.inl ⟨by omega,by omega⟩,by omega,by omega,by omega,by omega,by omega,q⟩
def S_Z:Ei:=λW ds R=>∃(n:Int) (x:Addr) (N B:Nat) (ps:List Int) (ms:List (List Int)),ds=[.int n,.atom (.ref x),.int N,.int B]/\Hi W x ms/\M.Tab ps N B ms/\0<n/\n<=2000/\N<=2000/\B<=2000/\(∀y∈ps,y<=n) /\
 ∀D z,Hi D x z->M.Tab (n::ps) N B z->R .non D
theorem Av {i:Int} {n k:Nat} (h:k<n):((oK i n).map D.int).getD k .non=.int (i+(k:Int)):=by
 rw [zj,zP,z_ i n k h];rfl
theorem rQ (r:List Int) (t:Nat) (v:Int):(r.map V.int).set t (.int v)=(r.set t v).map V.int:=by rw [List.map_set]
theorem adU (T:Zs K mg cs):OkV P w base 2 T.rN S_Z:=by
 have G_X:=aaw P w base T
 refine T.rN.F.XX Mr (λW ds R h=>?_) (λcdv A outer s H E C W ds R hK hr h=>?_)
 ·obtain ⟨_,_,_,_,_,_,rfl,_⟩:=h;rfl
 have hu:=hr.units
 obtain ⟨B,x,N,Kk,ps,ms,rfl,⟨bs,U,nx,SX⟩,hT,p0,p1,n1,k1,hps,q⟩:=h
 refine ⟨_,(d8 (q_ zO rfl (λW ok=>(qR rfl T.e_ (a2 qi (cG (qv 3) qi)))) (λW ok=>(aO (i:=4) Mr.nd rfl lc)) (aU (aW (λW ok=>(aL (i:=5) Mr.nd rfl lc (gD ok hK (qv 1) (qv 4) (λ_ _=>rfl)))))
    (aU (aW (λW ok=>(aL (i:=6) Mr.nd rfl lc (gD ok hK (qv 1) (bQ (qv 4) qi) (λ_ _=>rfl)))))
    (d8 (q_ zO rfl (λW ok=>(dD hK (aq (aj hK T.nF G_X hr.m (cA (qv 0) (a3 (qv 4) (qv 2) (qv 3))))))) (λW ok=>(aO (i:=7) Mr.nd rfl lc)) (d8 (Kv T5 (λW ok=>(qv 5)) (λW ok=>(qv 7)) (λW ok=>(gD ok hK (qv 6) (bQ (qv 7) (qv 0)) (λ_ _=>rfl))))))))))),?_⟩
 obtain ⟨I,hI⟩:∃I:Nat->Hp->aG->Prop,I=(λ(i:Nat) W p=>∃(ms:List (List Int)) (w4 w5 w6 Z:Option D),W x=some (.lst (bs.map V.ref))/\t6 W bs ms/\M.CP B ps N Kk i ms/\p=[some (.d (.int B)),some (.d (.atom (.ref x))),some (.d (.int N)),some (.d (.int Kk)),Option.map Sl.d w4,Option.map Sl.d w5,Option.map Sl.d w6,Option.map Sl.d Z]):=⟨_,rfl⟩
 refine lO (n:=Kk) (item:=λi=>.int (1+(i:Int))) (p1:=_) (λQ h=>by
  simp only [Q]
  have e:((Kk:Int)+1 - 1).toNat=Kk:=by omega
  rw [e]
  exact ⟨by omega,by omega,h⟩) I (by rw [hI];exact ⟨ms,none,none,none,none,U,SX,hT.start,rfl⟩) ?_ ?_
 ·intro i W p hi Y
  rw [hI] at Y
  obtain ⟨ms,w4,w5,w6,Z,U,Hj,hT,rfl⟩:=Y
  have hb:bs.length=ms.length:=Hj.len
  have hl:=hT.p8.len
  obtain ⟨b1,e1⟩:∃b,bs[i+1]? = some b:=⟨_,zd (by omega)⟩
  obtain ⟨b0,e0⟩:∃b,bs[i]? = some b:=⟨_,zd (by omega)⟩
  have f1:h_ (bs.map V.ref) (1+(i:Int))=some (.ref b1):=dM (by omega) (by rw [show (1+(i:Int)).toNat=i+1 by omega];exact e1)
  have f0:h_ (bs.map V.ref) (1+(i:Int) - 1)=some (.ref b0):=dM (by omega) (by rw [show (1+(i:Int) - 1).toNat=i by omega];exact e0)
  simp only [Hg]
  refine aD λkk hkk=>?_
  simp only [R,U,f1]
  refine hkk _ _ ?_
  refine aD λkk hkk=>?_
  simp only [R,U,f0]
  refine hkk _ _ ?_
  refine Kz ?_
  simp only [R,S_X]
  refine ⟨by omega,by omega,by omega,by omega,by omega,by omega,by omega,by omega,?_⟩
  obtain ⟨z,hz⟩:∃z:Int,z=(if (N:Int) - (Kk:Int)+(1+(i:Int))<B * (1+(i:Int)) then (N:Int) - (Kk:Int)+(1+(i:Int)) else B * (1+(i:Int))):=⟨_,rfl⟩
  rw [<-hz]
  have z1:z<=(N:Int) - (Kk:Int)+(1+(i:Int)):=by rw [hz];split<;>omega
  have z2:∀t:Int,t<=(N:Int) - (Kk:Int)+(1+(i:Int))->z<t->B * ((i:Int)+1)<t:=λt h1 h2=>by
   rw [xh (i:Int) 1]
   rw [hz] at h2
   split at h2<;>omega
  obtain ⟨n,hn⟩:∃n,n=(z+1 - (B+(1+(i:Int)) - 1)).toNat:=⟨_,rfl⟩
  rw [<-hn]
  obtain ⟨J,hJ⟩:∃J:Nat->Hp->aG->Prop,J=(λ(k:Nat) W p=>∃(ms:List (List Int)) (Z:Option D),W x=some (.lst (bs.map V.ref))/\t6 W bs ms/\M.vB B ps N Kk i (B+(i:Int)+(k:Int)) ms/\p=[some (.d (.int B)),some (.d (.atom (.ref x))),some (.d (.int N)),some (.d (.int Kk)),some (.d (.int (1+(i:Int)))),some (.d (.atom (.ref b1))),some (.d (.atom (.ref b0))),Option.map Sl.d Z]):=⟨_,rfl⟩
  refine lO (n:=((oK (B+(1+(i:Int)) - 1) n).map D.int).length) (item:=λk=>((oK (B+(1+(i:Int)) - 1) n).map D.int).getD k .non) (p1:=_) (λQ h=>h) J (by rw [hJ];exact ⟨ms,Z,U,Hj,by have:=hT.go p0;simpa using this,rfl⟩) ?_ ?_
  ·intro k W p hk Y
   rw [hJ] at Y
   obtain ⟨ms,Z,U,O,hT,rfl⟩:=Y
   rw [z9,iR] at hk
   rw [Av hk]
   have ec:B+(1+(i:Int)) - 1+(k:Int)=B+(i:Int)+(k:Int):=by omega
   rw [ec]
   obtain ⟨c,hc⟩:∃c,c=B+(i:Int)+(k:Int):=⟨_,rfl⟩
   rw [<-hc] at hT ⊢
   obtain ⟨g1,g0⟩:=hT.read p0 (by omega) (t0:=c.toNat) (by omega) (by omega) (by omega)
   obtain ⟨r1,s1,y1⟩:=M.fH g1
   obtain ⟨r0,s0,y0⟩:=M.fH g0
   have h1:=O.at_ _ _ _ e1 s1
   have h0:=O.at_ _ _ _ e0 s0
   have x1:(r1.map V.int)[c.toNat]? = some (.int (M.cg true ps (i+1) c)):=by rw [zP,y1];rfl
   have x0:h_ (r0.map V.int) (c - B)=some (.int (M.cg true (B::ps) i (c - B))):=iT (by omega) y0
   simp only [R,h1,h0,x1,x0]
   refine ⟨by omega,?_⟩
   rw [hJ,rQ]
   have nb:x≠b1:=λe=>nx (by rw [e];exact yH e1)
   refine ⟨_,some (.int c),by rw [aC nb];exact U,O.wr e1,?_,rfl⟩
   have:=hT.step p0 (by omega) (t0:=c.toNat) (by omega) (by omega) (by omega) s1 rfl
   have e2:B+(i:Int)+((k+1:Nat):Int)=c+1:=by rw [hc];push_cast;omega
   rw [e2]
   exact this
  ·intro W p Y
   rw [hJ] at Y
   obtain ⟨ms,Z,U,O,hT,rfl⟩:=Y
   rw [z9,iR] at hT
   show I (i+1) _ _
   rw [hI]
   refine ⟨ms,some (.int (1+(i:Int))),some _,some _,Z,U,O,hT.fin p0 hps λt h1 h2=>z2 t (by omega) (by omega),rfl⟩
 ·intro W p Y
  rw [hI] at Y
  obtain ⟨ms,w4,w5,w6,Z,U,Hj,hT,rfl⟩:=Y
  exact q W ms ⟨bs,U,nx,Hj⟩ hT.fin
def S_y:Ei:=λW ds R=>∃(ps:List Int) (N n:Nat),ds=[.lst (ps.map D.int),.int N,.int n]/\N<=2000/\n<=2000/\(∀y∈ps,(0:Int)<y/\y<=2000)/\ps.Pairwise (·<·) /\
 ∀z x ms,Hi z x ms->M.Tab ps.reverse N n ms->R (.atom (.ref x)) z
theorem MT {ps:List Int} {i:Nat} (h:i<ps.length):(ps.take (i+1)).reverse=ps.getD i 0::(ps.take i).reverse:=by
 rw [List.take_succ,zd h,yJ,zj,zd h];rfl
theorem Rc {ps:List Int} (z:ps.Pairwise (·<·)) {i:Nat} (h:i<ps.length):∀y∈(ps.take i).reverse,y<=ps.getD i 0:=λy n=>by
 rw [zY] at n
 obtain ⟨j,B,e⟩:=xw n
 rw [yG] at B
 rw [List.getElem_take] at e
 have:=List.pairwise_iff_getElem.mp z j i (by omega) h (by omega)
 rw [zj,zd h]
 show y<=ps[i]
 omega
theorem G5 (N n:Nat):(List.replicate (n+1) (List.replicate (N+1) (0:Int))).set 0 ((List.replicate (N+1) (0:Int)).set 0 1)=([1]++List.replicate N 0)::List.replicate n (List.replicate (N+1) 0):=by
 rw [zU,List.set_cons_zero,zU,List.set_cons_zero];rfl
theorem Xg (T:Zs K mg cs):OkV P w base 3 T.iZ S_y:=by
 have G_Z:=adU P w base T
 refine T.iZ.F.XX W4 (λW ds R h=>?_) (λcdv A outer s H E C W ds R hK hr h=>?_)
 ·obtain ⟨_,_,_,rfl,_⟩:=h;rfl
 have hu:=hr.units
 obtain ⟨ps,N,O,rfl,n1,k1,B,hs,q⟩:=h
 refine ⟨_,(aU (Ky (i:=3) W4.nd rfl lc (N:=["size","parts","number","many","rows","part"]) (k:=1) (aV.of (show gr (aa s_y) ["parts","number","many","rows","part"] _ ["size","parts","number","many","rows","part"] 1 from ⟨by rfl,by decide,by decide,by rfl,by decide,by decide,by decide,by decide⟩)) rfl (λW ok=>(jN rfl T.e_ (a1 (cG (qv 2) qi)))) (λW ok Z s H fp=>(dJ (i:=0) (by decide) (show List.Nodup (["size","parts","number","many","rows","part"]:List Str) by decide) rfl (Or.inl rfl) (Or.inr rfl))) (λW ok Z s H fp=>jT) (λW ok Z s H fp=>(Y5 (aq (dG (a1 qi))) (cG (qv 2) qi))))
    (aU (Wa (λW ok=>qi) (λW ok=>(gD ok hK (qv 3) qi (λ_ _=>rfl))) (λW ok=>qi))
    (aU (q_ zO rfl (λW ok=>(dD hK (qv 0))) (λW ok=>(aO (i:=4) W4.nd rfl lc)) (d8 (Kr (lN hK T.rN G_Z hr.m (λW ok=>(cA (qv 4) (a3 (qv 3) (qv 1) (qv 2))))))))
    (d8 (aW (λW ok=>(cH (qM (qv 3))))))))),?_⟩
 refine aD λkk hkk=>?_
 have ez:∀m:Nat,(List.replicate m [D.int 0]).flatten=(List.replicate m (0:Int)).map D.int:=λm=>JR m 0
 obtain ⟨I,hI⟩:∃I:Nat->List (List Int)->aG->Prop,I=(λ(i:Nat) ys p=>ys=List.replicate i (List.replicate (N+1) 0)/\∃w:Option D,p=[Option.map Sl.d w,some (.d (.lst (ps.map D.int))),some (.d (.int N)),some (.d (.int O)),none,none]):=⟨_,rfl⟩
 refine Qh (n:=O+1) (item:=λi=>.int (i:Int)) (p1:=_) (λQ h=>by
  simp only [Q]
  have e:((O:Int)+1).toNat=O+1:=by omega
  rw [e]
  exact ⟨by omega,by omega,h⟩) (by omega) I (by rw [hI];exact ⟨rfl,none,rfl⟩) (λi ys p h=>by rw [hI] at h;rw [h.1,zF];exact zC _) ?_ ?_
 ·intro i ys p hi B
  rw [hI] at B
  obtain ⟨rfl,w,rfl⟩:=B
  have go:∀p',p'=[some (Sl.d (D.int (i:Int))),some (.d (.lst (ps.map D.int))),some (.d (.int N)),some (.d (.int O)),none,none]->∃ns,(List.replicate ((N:Int)+1).toNat [D.int 0]).flatten=List.map D.int ns/\I (i+1) (List.replicate i (List.replicate (N+1) 0)++[ns]) p':=λp' e=>by
   refine ⟨_,ez _,?_⟩
   rw [hI,show ((N:Int)+1).toNat=N+1 by omega]
   exact ⟨by rw [List.replicate_succ' (n:=i)],some (.int i),e⟩
  cases w<;>(simp only [Q];exact ⟨by omega,by omega,by omega,go _ rfl⟩)
 intro ys p B x W1 U _
 rw [hI] at B
 obtain ⟨rfl,w,rfl⟩:=B
 refine ⟨rfl,hkk _ _ ?_⟩
 obtain ⟨bs,hx,nx,Y⟩:=U
 have hb:=Y.len
 rw [zF] at hb
 obtain ⟨b0,e0⟩:∃b,bs[0]? = some b:=⟨_,zd (by omega)⟩
 have h0:=Y.at_ 0 b0 (List.replicate (N+1) 0) e0 (by rw [zX,zo (by omega)])
 have f0:h_ (bs.map V.ref) 0=some (.ref b0):=dM (by decide) e0
 have i0:wL ((List.replicate (N+1) (0:Int)).map V.int).length 0=some 0:=by exact pX (by decide) (by rw [z9,zF];exact Nat.succ_pos _)
 obtain ⟨z0,hz0⟩:∃z,z=List.replicate (N+1) (0:Int):=⟨_,rfl⟩
 rw [<-hz0] at h0 i0
 refine aD λkk hkk=>?_
 simp only [R,hx,f0,h0,i0]
 refine hkk _ _ ?_
 have nb:x≠b0:=λe=>nx (by rw [e];exact yH e0)
 have Hj:=Y.wr (ns:=z0.set 0 1) e0
 rw [hz0,G5] at Hj
 have U:Hi (upd W1 b0 (.lst ((z0.map V.int).set 0 (.int 1)))) x (([1]++List.replicate N 0)::List.replicate O (List.replicate (N+1) 0)):=⟨bs,by rw [aC nb];exact hx,nx,by rw [rQ,hz0];exact Hj⟩
 generalize upd W1 b0 (.lst ((z0.map V.int).set 0 (.int 1)))=W2 at U
 obtain ⟨J,hJ⟩:∃J:Nat->Hp->aG->Prop,J=(λ(i:Nat) W p=>∃(ms:List (List Int)) (w4:Option D),Hi W x ms/\M.Tab (ps.take i).reverse N O ms/\p=[some (.d (.lst (ps.map D.int))),some (.d (.int N)),some (.d (.int O)),some (.d (.atom (.ref x))),Option.map Sl.d w4]):=⟨_,rfl⟩
 refine rm (lO (n:=(ps.map D.int).length) (item:=λi=>(ps.map D.int).getD i .non) (p1:=_) (λQ h=>by simp only [Hh];exact h) J (by rw [hJ];exact ⟨_,none,U,M.Tab.nil,rfl⟩) ?_ ?_)
 ·intro i W p hi B
  rw [hJ] at B
  obtain ⟨ms,w4,U,hT,rfl⟩:=B
  rw [z9] at hi
  rw [getD_ints hi]
  have hm:ps.getD i 0∈ps:=by rw [zj,zd hi];exact yd hi
  have g:=B _ hm
  simp only [R,S_Z]
  refine ⟨N,rfl,O,rfl,_,ms,U,hT,g.1,g.2,n1,k1,Rc hs hi,λW' ms' hM' hT'=>?_⟩
  rw [hJ]
  exact ⟨ms',some _,hM',by rw [MT hi];exact hT',rfl⟩
 ·intro W p B
  rw [hJ] at B
  obtain ⟨ms,w4,U,hT,rfl⟩:=B
  rw [z9,List.take_length] at hT
  simp only [Hh]
  exact q _ _ _ U hT
theorem Dg {b n:Int} (z:0<=n):∀y∈M.aX b n,(0:Int)<y/\y<=n:=λy B=>by
 have:=(M.gh z).mp B
 omega
def S_C:eE:=λas R=>∃(n b:Int) (k:Nat),as=[.d (.int n),.d (.int b),.d (.int k)]/\0<=n/\n<=2000/\2<=b/\b<=36/\k<=2000/\R (.rd (.int (M.cg true (M.aX b n).reverse k n))) as
theorem aax (T:Zs K mg cs):Ok P w base 5 T.fL S_C:=by
 have Y:=jY P w base T
 have O:=Xg P w base T
 have U:=MP P w base T
 refine T.fL.F.gU aab (λas R h=>?_) (λcdv A outer s H E C as R D I h=>?_)
 ·obtain ⟨_,_,_,rfl,_⟩:=h;rfl
 have hu:=I.units
 obtain ⟨n,b,k,rfl,J,n1,b0,Z,k1,q⟩:=h
 refine ⟨_,(Cq (aU (aW (λW ok=>(qO (aq (aj D T.aJ Y I.m (a1 (qv 1)))))))
    (aU (tZ (i:=3) aab.nd rfl lc (lN D T.iZ O I.m (λW ok=>(a3 (aq (aj D T.cC U I.m (a2 (qv 0) (qv 1)))) (qv 0) (qv 2)))))
    (d8 (aW (λW ok=>(cH (qM (gD ok D (gD ok D (qv 3) (qv 2) (λ_ _=>rfl)) (qv 0) (λ_ _=>rfl)))))))))),?_⟩
 show sW _ _ _ _ _
 refine aD λkk z=>?_
 simp only [R,S_a]
 refine ⟨b0,Z,z _ _ ?_⟩
 refine aD λkk z=>?_
 simp only [R,X5,S_y]
 refine ⟨J,by omega,b0,Z,_,rfl,n.toNat,by omega,k,rfl,by omega,k1,λy hy=>?_,M.gJ b n,λW' x ms hM hT=>z _ _ ?_⟩
 ·have:=Dg J y hy
  omega
 obtain ⟨bs,hx,nx,B⟩:=hM
 have hb:=B.len
 have hl:=hT.p8.len
 have g:=hT.val k n.toNat (zC _) (zC _)
 rw [show ((n.toNat:Nat):Int)=n by omega] at g
 obtain ⟨r,s1,y1⟩:=M.fH g
 obtain ⟨b',e1⟩:∃b',bs[k]? = some b':=⟨_,zd (by omega)⟩
 have f1:h_ (bs.map V.ref) (k:Int)=some (.ref b'):=dM (by omega) (by rw [xA];exact e1)
 have h1:=B.at_ _ _ _ e1 s1
 have x1:h_ (r.map V.int) n=some (.int (M.cg true (M.aX b n).reverse k n)):=iT J y1
 simp only [R,hx,f1,h1,x1]
 exact q
def S_I:Ei:=λW ds R=>∃(n:Int) (x:Addr) (N B:Nat) (ps:List Int) (ms:List (List Int)),ds=[.int n,.atom (.ref x),.int N,.int B]/\Hi W x ms/\M.Tab (n::ps) N B ms/\0<n/\n<=2000/\N<=2000/\B<=2000/\(∀y∈ps,y<=n) /\
 ∀D z,Hi D x z->M.Tab ps N B z->R .non D
theorem adW (T:Zs K mg cs):OkV P w base 2 T.l_ S_I:=by
 have G_X:=aaw P w base T
 refine T.l_.F.XX Mu (λW ds R h=>?_) (λcdv A outer s H E C W ds R hK hr h=>?_)
 ·obtain ⟨_,_,_,_,_,_,rfl,_⟩:=h;rfl
 have hu:=hr.units
 obtain ⟨B,x,N,Kk,ps,ms,rfl,⟨bs,Y,nx,SX⟩,hT,p0,p1,n1,k1,hps,q⟩:=h
 refine ⟨_,(d8 (q_ zO rfl (λW ok=>(We rfl T.lW rfl T.e_ (a2 qi (cG (qv 3) qi)))) (λW ok=>(aO (i:=4) Mu.nd rfl lc)) (aU (aW (λW ok=>(aL (i:=5) Mu.nd rfl lc (gD ok hK (qv 1) (qv 4) (λ_ _=>rfl)))))
    (aU (aW (λW ok=>(aL (i:=6) Mu.nd rfl lc (gD ok hK (qv 1) (bQ (qv 4) qi) (λ_ _=>rfl)))))
    (d8 (q_ zO rfl (λW ok=>(dD hK (aq (aj hK T.nF G_X hr.m (cA (qv 0) (a3 (qv 4) (qv 2) (qv 3))))))) (λW ok=>(aO (i:=7) Mu.nd rfl lc)) (d8 (Kv T6 (λW ok=>(qv 5)) (λW ok=>(qv 7)) (λW ok=>(gD ok hK (qv 6) (bQ (qv 7) (qv 0)) (λ_ _=>rfl))))))))))),?_⟩
 obtain ⟨I,hI⟩:∃I:Nat->Hp->aG->Prop,I=(λ(i:Nat) W p=>∃(ms:List (List Int)) (w4 w5 w6 w7:Option D),W x=some (.lst (bs.map V.ref))/\t6 W bs ms/\M.CW B ps N Kk i ms/\p=[some (.d (.int B)),some (.d (.atom (.ref x))),some (.d (.int N)),some (.d (.int Kk)),Option.map Sl.d w4,Option.map Sl.d w5,Option.map Sl.d w6,Option.map Sl.d w7]):=⟨_,rfl⟩
 refine lO (n:=Kk) (item:=λi=>.int ((Kk:Int) - (i:Int))) (p1:=_) (λQ h=>by
  simp only [Q]
  have e:((Kk:Int)+1 - 1).toNat=Kk:=by omega
  rw [e]
  have e2:∀k:Nat,(1:Int)+(Kk:Int) - 1 - (k:Int)=(Kk:Int) - (k:Int):=λk=>by omega
  simp only [e2]
  exact ⟨by omega,by omega,h⟩) I (by rw [hI];exact ⟨ms,none,none,none,none,Y,SX,hT.WT,rfl⟩) ?_ ?_
 ·intro i W p hi Z
  rw [hI] at Z
  obtain ⟨ms,w4,w5,w6,w7,Y,Hj,hT,rfl⟩:=Z
  obtain ⟨O,hi0⟩:∃O:Nat,O+1+i=Kk:=⟨Kk - i - 1,by omega⟩
  have es:(Kk:Int) - (i:Int)=1+(O:Int):=by omega
  rw [es]
  have hb:bs.length=ms.length:=Hj.len
  have hl:=hT.p8.len
  obtain ⟨b1,e1⟩:∃b,bs[O+1]? = some b:=⟨_,zd (by omega)⟩
  obtain ⟨b0,e0⟩:∃b,bs[O]? = some b:=⟨_,zd (by omega)⟩
  have f1:h_ (bs.map V.ref) (1+(O:Int))=some (.ref b1):=dM (by omega) (by rw [show (1+(O:Int)).toNat=O+1 by omega];exact e1)
  have f0:h_ (bs.map V.ref) (1+(O:Int) - 1)=some (.ref b0):=dM (by omega) (by rw [show (1+(O:Int) - 1).toNat=O by omega];exact e0)
  simp only [Hg]
  refine aD λkk hkk=>?_
  simp only [R,Y,f1]
  refine hkk _ _ ?_
  refine aD λkk hkk=>?_
  simp only [R,Y,f0]
  refine hkk _ _ ?_
  refine Kz ?_
  simp only [R,S_X]
  refine ⟨by omega,by omega,by omega,by omega,by omega,by omega,by omega,by omega,?_⟩
  obtain ⟨z,hz⟩:∃z:Int,z=(if (N:Int) - (Kk:Int)+(1+(O:Int))<B * (1+(O:Int)) then (N:Int) - (Kk:Int)+(1+(O:Int)) else B * (1+(O:Int))):=⟨_,rfl⟩
  rw [<-hz]
  have z1:z<=(N:Int) - (Kk:Int)+(1+(O:Int)):=by rw [hz];split<;>omega
  have z2:∀t:Int,t<=(N:Int) - (Kk:Int)+(1+(O:Int))->z<t->B * ((O:Int)+1)<t:=λt h1 h2=>by
   rw [xh (O:Int) 1]
   rw [hz] at h2
   split at h2<;>omega
  obtain ⟨n,hn⟩:∃n,n=(z+1 - (B+(1+(O:Int)) - 1)).toNat:=⟨_,rfl⟩
  rw [<-hn]
  obtain ⟨J,hJ⟩:∃J:Nat->Hp->aG->Prop,J=(λ(k:Nat) W p=>∃(ms:List (List Int)) (w7:Option D),W x=some (.lst (bs.map V.ref))/\t6 W bs ms/\M.vL B ps N Kk O (B+(O:Int)+(k:Int)) ms/\p=[some (.d (.int B)),some (.d (.atom (.ref x))),some (.d (.int N)),some (.d (.int Kk)),some (.d (.int (1+(O:Int)))),some (.d (.atom (.ref b1))),some (.d (.atom (.ref b0))),Option.map Sl.d w7]):=⟨_,rfl⟩
  refine lO (n:=((oK (B+(1+(O:Int)) - 1) n).map D.int).length) (item:=λk=>((oK (B+(1+(O:Int)) - 1) n).map D.int).getD k .non) (p1:=_) (λQ h=>h) J (by rw [hJ];exact ⟨ms,w7,Y,Hj,by have:=hT.go (i:=O) p0 (by omega);simpa using this,rfl⟩) ?_ ?_
  ·intro k W p hk Z
   rw [hJ] at Z
   obtain ⟨ms,w7,Y,U,hT,rfl⟩:=Z
   rw [z9,iR] at hk
   rw [Av hk]
   have ec:B+(1+(O:Int)) - 1+(k:Int)=B+(O:Int)+(k:Int):=by omega
   rw [ec]
   obtain ⟨c,hc⟩:∃c,c=B+(O:Int)+(k:Int):=⟨_,rfl⟩
   rw [<-hc] at hT ⊢
   obtain ⟨g1,g0⟩:=hT.read (by omega) (t0:=c.toNat) (by omega) p0 (by omega) (by omega)
   obtain ⟨r1,s1,y1⟩:=M.fH g1
   obtain ⟨r0,s0,y0⟩:=M.fH g0
   have h1:=U.at_ _ _ _ e1 s1
   have h0:=U.at_ _ _ _ e0 s0
   have x1:(r1.map V.int)[c.toNat]? = some (.int (M.cg true (B::ps) (O+1) c)):=by rw [zP,y1];rfl
   have x0:h_ (r0.map V.int) (c - B)=some (.int (M.cg true (B::ps) O (c - B))):=iT (by omega) y0
   simp only [R,h1,h0,x1,x0]
   refine ⟨by omega,?_⟩
   rw [hJ,rQ]
   have nb:x≠b1:=λe=>nx (by rw [e];exact yH e1)
   refine ⟨_,some (.int c),by rw [aC nb];exact Y,U.wr e1,?_,rfl⟩
   have:=hT.step p0 (by omega) (t0:=c.toNat) (by omega) (by omega) (by omega) s1 rfl
   have e2:B+(O:Int)+((k+1:Nat):Int)=c+1:=by rw [hc];push_cast;omega
   rw [e2]
   exact this
  ·intro W p Z
   rw [hJ] at Z
   obtain ⟨ms,w7,Y,U,hT,rfl⟩:=Z
   rw [z9,iR] at hT
   show I (i+1) _ _
   rw [hI]
   refine ⟨ms,some (.int (1+(O:Int))),some _,some _,w7,Y,U,hT.fin (j:=i) (by omega) p0 hps λt h1 h2=>z2 t (by omega) (by omega),rfl⟩
 ·intro W p Z
  rw [hI] at Z
  obtain ⟨ms,w4,w5,w6,w7,Y,Hj,hT,rfl⟩:=Z
  exact q W ms ⟨bs,Y,nx,Hj⟩ hT.fin
def S_o:Ei:=λW ds R=>∃(n:Int) (x:Addr) (N z:Nat) (ps:List Int) (ms:List (List Int)),ds=[.int n,.atom (.ref x),.int N,.int z]/\Hi W x ms/\M.Tab (n::ps) N z ms/\0<n/\R (.int (M.cf n ps z N)) W
theorem adY (T:Zs K mg cs):OkV P w base 1 T.cU S_o:=by
 refine T.cU.F.XX adD (λW ds R h=>?_) (λcdv A outer s H E C W ds R I hr h=>?_)
 ·obtain ⟨_,_,_,_,_,_,rfl,_⟩:=h;rfl
 have Z:=hr.units
 obtain ⟨n,x,N,z,ps,ms,rfl,⟨bs,Y,nx,B⟩,hT,p0,q⟩:=h
 refine ⟨_,(aU (aW (λW ok=>(bD (PW.pt (w_or (jJ I Z (qv 3) qi) (iK (xK (qv 0) (qv 2))))) (sr qi) aR)))
    (d8 (aW (λW ok=>(cH (qM (gD ok I (gD ok I (qv 1) (bQ (qv 3) qi) (λ_ _=>rfl)) (bQ (qv 2) (qv 0)) (λ_ _=>rfl)))))))),?_⟩
 refine aD λkk D=>?_
 by_cases c:z=0\/(N:Int)<n
 ·have e:M.cf n ps z N=0:=by unfold M.cf;rw [zo c]
  rw [e] at q
  simp only [R]
  by_cases k0:(z:Int)=0
  ·rw [zo k0];exact q
  ·rw [zi k0,zo (by omega)];exact q
 ·have e:M.cf n ps z N=M.cg true (n::ps) (z - 1) ((N:Int) - n):=by unfold M.cf;rw [zi c]
  rw [e] at q
  simp only [R]
  rw [zi (by omega),zi (by omega)]
  refine D _ _ ?_
  have hb:=B.len
  have hl:=hT.p8.len
  have g:=hT.val (z - 1) ((N:Int) - n).toNat (by omega) (by omega)
  rw [show ((((N:Int) - n).toNat:Nat):Int)=(N:Int) - n by omega] at g
  obtain ⟨r,U,J⟩:=M.fH g
  obtain ⟨b',e1⟩:∃b',bs[z - 1]? = some b':=⟨_,zd (by omega)⟩
  have f1:h_ (bs.map V.ref) ((z:Int) - 1)=some (.ref b'):=dM (by omega) (by rw [show ((z:Int) - 1).toNat=z - 1 by omega];exact e1)
  have h1:=B.at_ _ _ _ e1 U
  have O:h_ (r.map V.int) ((N:Int) - n)=some (.int (M.cg true (n::ps) (z - 1) ((N:Int) - n))):=iT (by omega) J
  simp only [R,Y,f1,h1,O]
  exact q
theorem G6 {qs:List Int} {i:Nat} (h:i<qs.length):(qs.map D.int).getD (qs.length - 1 - i) .non=.int (qs.reverse.getD i 0):=by
 rw [zj,zP,zj,List.getElem?_reverse h,zd (show qs.length - 1 - i<qs.length by omega)];rfl
theorem Rf {ps:List Int} {i:Nat} (h:i<ps.length):ps.drop i=ps.getD i 0::ps.drop (i+1):=by
 rw [List.drop_eq_getElem_cons h,zj,zd h];rfl
theorem Xh {p:Int} {ps:List Int} {K:Nat} {N a:Int} (h0:0<=a) (h:a<M.cf p ps K N):0<K/\p<=N:=by
 unfold M.cf at h
 by_cases z:K=0\/N<p
 ·rw [zo z] at h;omega
 ·omega
def S_p:eE:=λas R=>∃(n b pl:Int) (k:Nat),as=[.d (.int n),.d (.int b),.d (.int k),.d (.int pl)]/\0<=n/\n<=2000/\2<=b/\b<=36/\k<=2000/\0<=pl/\pl<M.cg true (M.aX b n).reverse k n/\R (.ro ((M.nj (M.aX b n).reverse k n pl).map D.int)) as
theorem aay (T:Zs K mg cs):Ok P w base 5 T.gR S_p:=by
 have Aq:=jY P w base T
 have G_c:=MP P w base T
 have G_y:=Xg P w base T
 have G_o:=adY P w base T
 have G_I:=adW P w base T
 have G_t:=Q5 P w base T
 refine T.gR.F.gU nu (λas R h=>?_) (λcdv A outer s H E C as R Y hr h=>?_)
 ·obtain ⟨_,_,_,_,rfl,_⟩:=h;rfl
 have hu:=hr.units
 obtain ⟨n,b,pl,k,rfl,n0,n1,b0,b1,k1,l0,l1,q⟩:=h
 obtain ⟨N,rfl⟩:∃N:Nat,n=(N:Int):=⟨n.toNat,by omega⟩
 refine ⟨_,(Cq (aU (aW (λW ok=>(qO (aq (aj Y T.aJ Aq hr.m (a1 (qv 1)))))))
    (aU (aW (λW ok=>(bD (PW.pt (w_or (d7 (fu (aq (aj Y T.eO G_t hr.m (a1 (qv 3)))))) (iK (sS (qv 3) qi)))) (aQ qP) aR)))
    (aU (aW (λW ok=>(aL (i:=4) nu.nd rfl lc (aq (aj Y T.cC G_c hr.m (a2 (qv 0) (qv 1)))))))
    (aU (tZ (i:=5) nu.nd rfl lc (lN Y T.iZ G_y hr.m (λW ok=>(a3 (qv 4) (qv 0) (qv 2)))))
    (aU (aW (λW ok=>(bD (Gm (qv 3) (gD ok Y (gD ok Y (qv 5) (qv 2) (λ_ _=>rfl)) (qv 0) (λ_ _=>rfl))) (aQ qP) aR)))
    (aU (aW (λW ok=>(lE (i:=6) nu.nd rfl lc (dG pq))))
    (aU (aW (λW ok=>(aL (i:=7) nu.nd rfl lc (qv 0))))
    (aU (aW (λW ok=>(aL (i:=8) nu.nd rfl lc (qv 3))))
    (aU (q_ zO rfl (λW ok=>(R3 Y rfl T.lW (a1 (qv 4)))) (λW ok=>(aO (i:=9) nu.nd rfl lc)) (aU (tZ (i:=10) nu.nd rfl lc (lN Y T.cU G_o hr.m (λW ok=>(cA (qv 9) (a3 (qv 5) (qv 7) (bQ (qv 2) (dH Y rfl T.fK (a1 (qv 6)))))))))
    (aU (Qe zO (λW ok=>(sS (qv 8) (qv 10))) (aU (aW (λW ok=>(qO (jL Y (pv 6) (a1 (qv 9))))))
    (aU (aW (λW ok=>(Vv (i:=7) nu.nd rfl lc (qv 9))))
    (d8 (tZ (i:=10) nu.nd rfl lc (lN Y T.cU G_o hr.m (λW ok=>(cA (qv 9) (a3 (qv 5) (qv 7) (bQ (qv 2) (dH Y rfl T.fK (a1 (qv 6)))))))))))))
    (aU (aW (λW ok=>(Vv (i:=8) nu.nd rfl lc (qv 10))))
    (d8 (Kr (lN Y T.l_ G_I hr.m (λW ok=>(cA (qv 9) (a3 (qv 5) (qv 7) (bQ (qv 2) (dH Y rfl T.fK (a1 (qv 6))))))))))))))
    (d8 (aW (λW ok=>(oE (i:=6) (pv 6))))))))))))))),?_⟩
 show sW _ _ _ _ _
 refine aD λkk B=>?_
 simp only [R,S_a]
 refine ⟨b0,b1,B _ _ ?_⟩
 refine aD λkk B=>?_
 simp only [R,S_t]
 rw [zi (by omega)]
 refine B _ _ ?_
 refine aD λkk B=>?_
 simp only [R,X5]
 refine ⟨by omega,by omega,b0,b1,B _ _ ?_⟩
 refine aD λkk B=>?_
 simp only [R,S_y]
 have bd:=Dg (b:=b) (n:=(N:Int)) (by omega)
 refine ⟨by omega,k1,λy hy=>?_,M.gJ b N,λW' x ms hM hT=>B _ _ ?_⟩
 ·have:=bd y hy
  omega
 have g:=hT.val k N (zC _) (zC _)
 refine aD λkk B=>?_
 have rd:∃(bs:List Addr) (b':Addr) (r:List Int),W' x=some (.lst (bs.map V.ref))/\h_ (bs.map V.ref) (k:Int)=some (.ref b')/\W' b'=some (.lst (List.map V.int r))/\h_ (List.map V.int r) (N:Int)=some (.int (M.cg true (M.aX b N).reverse k N)):=by
  obtain ⟨bs,hx,nx,SX⟩:=hM
  have hb:=SX.len
  have hl:=hT.p8.len
  obtain ⟨r,s1,y1⟩:=M.fH g
  obtain ⟨b',e1⟩:∃b',bs[k]? = some b':=⟨_,zd (by omega)⟩
  exact ⟨bs,b',r,hx,dM (by omega) (by rw [xA];exact e1),SX.at_ _ _ _ e1 s1,iT (by omega) (by rw [xA];exact y1)⟩
 obtain ⟨bs,b',r,r1,r2,r3,r4⟩:=rd
 simp only [R,r1,r2,r3,r4]
 rw [zi (by omega)]
 refine B _ _ ?_
 clear r1 r2 r3 r4 B
 refine aD λkk B=>?_
 simp only [R]
 refine B _ _ ?_
 refine aD λkk B=>?_
 simp only [R]
 refine B _ _ ?_
 refine aD λkk B=>?_
 simp only [R]
 refine B _ _ ?_
 have srt:(M.aX b N).reverse.Pairwise (λx y=>y<x):=List.pairwise_reverse.mpr (M.gJ b N)
 have bd':∀y∈(M.aX b N).reverse,(0:Int)<y/\y<=N:=λy hy=>bd y (zY.mp hy)
 have gb:∀i,i<(M.aX b N).length->((M.aX b N).map D.int).getD ((M.aX b N).length - 1 - i) .non=.int ((M.aX b N).reverse.getD i 0):=λi hi=>G6 hi
 have ln:(M.aX b N).reverse.length=(M.aX b N).length:=yT
 generalize M.aX b (N:Int)=qs at hT srt bd' gb ln q
 generalize qs.reverse=ps at hT srt bd' gb ln q
 obtain ⟨I,hI⟩:∃I:Nat->Hp->aG->Prop,I=(λ(i:Nat) W p=>∃(ms:List (List Int)) (way:List Int) (O U:Nat) (ah:Int) (w9 w10:Option D),Hi W x ms/\M.Tab (ps.drop i) O U ms/\O<=N/\way.length+U=k/\0<=ah/\way++M.nj (ps.drop i) U O ah=M.nj ps k N pl /\
  p=[some (.d (.int N)),some (.d (.int b)),some (.d (.int k)),some (.d (.int pl)),some (.d (.lst (qs.map D.int))),some (.d (.atom (.ref x))),some (.own (way.map D.int)),some (.d (.int O)),some (.d (.int ah)),Option.map Sl.d w9,Option.map Sl.d w10]):=⟨_,rfl⟩
 refine rm (lO (n:=(qs.map D.int).length) (item:=λi=>(qs.map D.int).getD ((qs.map D.int).length - 1 - i) .non) (p1:=_) (λQ h=>by simp only [Q];exact h) I (by rw [hI];exact ⟨ms,[],N,k,pl,none,none,hM,hT,zC _,by simp,l0,rfl,rfl⟩) ?_ ?_)
 ·intro i W p hi hp
  rw [hI] at hp
  obtain ⟨ms,way,O,U,ah,w9,w10,hM,hT,hN',hk',a0,Z,rfl⟩:=hp
  rw [z9] at hi ⊢
  rw [gb i hi]
  rw [<-ln] at hi
  have da:=Rf hi
  have hm:ps.getD i 0∈ps:=by rw [zj,zd hi];exact yd hi
  obtain ⟨p0,p1⟩:=bd' _ hm
  have hps:∀y∈ps.drop (i+1),y<=ps.getD i 0:=λy hy=>by
   have s2:=srt.drop (i:=i)
   rw [da,List.pairwise_cons] at s2
   have:=s2.1 y hy
   omega
  rw [da] at hT Z
  generalize ps.getD i 0=pt at p0 p1 hT Z hps
  generalize ad0:ps.drop (i+1)=ps' at hT Z hps
  simp only [R]
  refine aD λkk B=>?_
  simp only [R,S_o]
  refine ⟨O,rfl,U,by rw [z9];omega,ps',ms,hM,hT,p0,B _ _ ?_⟩
  obtain ⟨J,hJ⟩:∃J:Hp->aG->Prop,J=(λW p=>∃(ms:List (List Int)) (way:List Int) (O U:Nat),Hi W x ms/\M.Tab (pt::ps') O U ms/\O<=N/\way.length+U=k/\way++M.nj (pt::ps') U O ah=M.nj ps k N pl /\
   p=[some (.d (.int N)),some (.d (.int b)),some (.d (.int k)),some (.d (.int pl)),some (.d (.lst (qs.map D.int))),some (.d (.atom (.ref x))),some (.own (way.map D.int)),some (.d (.int O)),some (.d (.int ah)),some (.d (.int pt)),some (.d (.int (M.cf pt ps' U O)))]):=⟨_,rfl⟩
  refine rm (KC J (λp=>match p[6]? with|some (some (Sl.own xs))=>k - xs.length|_=>0) (by rw [hJ];exact ⟨ms,way,O,U,hM,hT,hN',hk',Z,rfl⟩) ?_)
  intro W1 p1 hp1
  rw [hJ] at hp1
  obtain ⟨ms,way,O,U,hM,hT,hN',hk',Z,rfl⟩:=hp1
  simp only [R]
  by_cases c:ah<M.cf pt ps' U O
  ·rw [zo c]
   obtain ⟨c1,c2⟩:=Xh a0 c
   rw [M.qd ⟨c1,c⟩] at Z
   refine aD λkk B=>?_
   simp only [R]
   refine ⟨by rw [z9];omega,B _ _ ?_⟩
   refine aD λkk B=>?_
   simp only [R]
   refine B _ _ ?_
   have ew:way.map D.int++[D.int pt]=(way++[pt]).map D.int:=by rw [yp];rfl
   rw [ew]
   simp only [R,S_o]
   refine ⟨(O:Int).toNat - pt.toNat,by omega,U - 1,by rw [z9,zt,yj];omega,ps',ms,hM,hT.less (by omega) (by omega),p0,?_⟩
   have en:(((O:Int).toNat - pt.toNat:Nat):Int)=(O:Int) - pt:=by omega
   rw [en]
   refine ⟨?_,by rw [z9,zt,yj,z9];omega⟩
   rw [hJ]
   exact ⟨ms,way++[pt],(O:Int).toNat - pt.toNat,U - 1,hM,hT.less (by omega) (by omega),by omega,by rw [zt,yj];omega,by rw [en,yt];exact Z,by rw [en]⟩
  ·rw [zi c]
   rw [M.vM (λz=>c z.2)] at Z
   refine aD λkk B=>?_
   simp only [R]
   refine B _ _ ?_
   simp only [R,S_I]
   refine ⟨O,rfl,U,by rw [z9];omega,ps',ms,hM,hT,p0,by omega,by omega,by omega,hps,λW' ms' hM' hT'=>?_⟩
   show I (i+1) _ _
   subst ad0
   rw [hI]
   exact ⟨ms',way,O,U,ah - M.cf pt (ps.drop (i+1)) U O,some _,some _,hM',hT',hN',hk',by omega,Z,rfl⟩
 ·intro W p hp
  rw [hI] at hp
  obtain ⟨ms,way,O,U,ah,w9,w10,hM,hT,hN',hk',a0,Z,rfl⟩:=hp
  rw [z9,<-ln,List.drop_length,M.vN,ya] at Z
  rw [<-Z] at q
  simp only [Q]
  exact q
def ad1:eE:=λas R=>∃n b:Int,as=[.d (.int n),.d (.int b)]/\0<=n/\n<=10 ^ 6/\2<=b/\b<=36/\R (.ro ((M.tw b n).map λx=>D.lst [.int (n - x),.int x])) as
theorem M3 {b n:Int} (B:2<=b) (z:b<=36) (D:0<=n) (n1:n<=10 ^ 6):(M.aX b (n / 2)).length<80000/\∀i,i<(M.aX b (n / 2)).length->1<=(M.aX b (n / 2)).getD i 0/\(M.aX b (n / 2)).getD i 0<=n / 2/\M.bG b ((M.aX b (n / 2)).getD i 0)=true:=by
 have h1:=M.m8 b (n / 2)
 have h2:=M.vp (n:=n / 2) B z (by omega) (by omega)
 refine ⟨by omega,λi hi=>?_⟩
 refine (M.gh (by omega)).mp ?_
 rw [zj,zd hi];exact yd hi
theorem aaA (T:Zs K mg cs):Ok P w base 5 T.rO ad1:=by
 have Y:=jY P w base T
 have U:=MP P w base T
 have O:=Q6 P w base T
 refine T.rO.F.gU aan (λas R h=>?_) (λcdv A outer s H E C as R B z h=>?_)
 ·obtain ⟨_,_,rfl,_⟩:=h;rfl
 have hu:=z.units
 obtain ⟨n,b,rfl,n0,n1,J,I,q⟩:=h
 have nB:n<M.vh:=M.CN (yz n1 (by decide))
 obtain ⟨lm,am⟩:=M3 J I n0 n1
 have fr:=M.vC (λx=>M.bG b (n - x)) (λx=>D.lst [.int (n - x),.int x]) (M.aX b (n / 2))
 unfold M.tw at q
 rw [<-fr] at q
 generalize hG:M.aX b (n / 2)=xs at *
 refine ⟨_,(bf (qO (aq (aj B T.aJ Y z.m (a1 (qv 1)))))
    (aQ (cH (lJ (N:=["lesser","number","base"]) (k:=1) (aV.of (show gr (aa W7) ["number","base"] _ ["lesser","number","base"] 1 from ⟨by rfl,by decide,by decide,by rfl,by decide,by decide,by decide,by decide⟩)) rfl (dD B (aq (aj B T.cC U z.m (a2 (ji (qv 0) qi) (qv 1))))) (λZ s H fp=>(dJ (i:=0) (by decide) (show List.Nodup (["lesser","number","base"]:List Str) by decide) rfl (Or.inl rfl) (Or.inr rfl))) (λZ s H fp=>(JP (fu (aq (aj B T.cR O z.m (a2 (bQ (qv 1) (qv 0)) (qv 2))))))) (λZ s H fp=>(aq (dG (a2 (bQ (qv 1) (qv 0)) (qv 0))))))))),?_⟩
 refine cj ?_
 simp only [R,S_a]
 refine ⟨J,I,?_⟩
 simp only [S]
 refine pB (n:=xs.length) (item:=λi=>(xs.map D.int).getD i .non) (p1:=_) (λQ h=>by
   simp only [Q,X5,hG,z9]
   exact ⟨by omega,by omega,J,I,h⟩) (by omega) (λi=>M.bG b (n - xs.getD i 0)) (λi=>.lst [.int (n - xs.getD i 0),.int (xs.getD i 0)]) (λi R hi h=>?_) (λi R hi hf h=>?_) ?_
 ·obtain ⟨a1,a2,a3⟩:=am i hi
  rw [getD_ints hi] at h ⊢
  simp only [Q,S_i]
  exact ⟨by omega,by omega,J,I,h⟩
 ·rw [getD_ints hi] at h ⊢
  simp only [Q]
  exact h
 simp only [Q]
 exact q
def S_L:eE:=λas R=>∃n b:Int,as=[.d (.int n),.d (.int b)]/\0<=n/\n<=10 ^ 6/\2<=b/\b<=36/\R (.rd (.int ((M.tw b n).length:Int))) as
theorem ad2 (T:Zs K mg cs):Ok P w base 6 T.iG S_L:=by
 have J:=jY P w base T
 have z:=aaA P w base T
 refine T.iG.F.gU adz (λas R h=>?_) (λZ A outer s H E C as R I B h=>?_)
 ·obtain ⟨_,_,rfl,_⟩:=h;rfl
 have hu:=B.units
 obtain ⟨n,b,rfl,Y,n1,U,O,q⟩:=h
 refine ⟨_,(bf (qO (aq (aj I T.aJ J B.m (a1 (qv 1)))))
    (sr (dH I rfl T.fK (a1 (aq (aj I T.rO z B.m (a2 (qv 0) (qv 1)))))))),?_⟩
 simp only [Hh]
 refine ⟨U,O,?_⟩
 simp only [Hh]
 refine ⟨Y,n1,U,O,?_⟩
 simp only [Hh]
 rw [show (M.tw b n).length=((M.tw b n).map λx=>D.lst [.int (n - x),.int x]).length by rw [z9]] at q
 exact q
def kn (xs:List Int):D:=.sO (xs.map Sum.inl) (xs.map λ_=>D.bl true)
theorem Rg {b N x:Int} (hN:0<=N) (J:1<=x) (I:x<=N):qX (Sum.inl x) ((M.aX b N).map Sum.inl)=M.bG b x:=by
 cases n:M.bG b x with
 | true=>exact qY.mpr (zZ.mpr ⟨x,(M.gh hN).mpr ⟨J,I,n⟩,rfl⟩)
 | false=>
  cases z:qX (Sum.inl x) ((M.aX b N).map Sum.inl) with
  | false=>rfl
  | true=>
   obtain ⟨y,D,B⟩:=zZ.mp (qY.mp z)
   cases B
   have:=((M.gh hN).mp D).2.2
   rw [n] at this;cases this
theorem M4 {b N:Int} (hN:0<=N) {i:Nat} (hi:i<(M.aX b N).length):1<=(M.aX b N).getD i 0/\(M.aX b N).getD i 0<=N/\M.bG b ((M.aX b N).getD i 0)=true:=by
 refine (M.gh hN).mp ?_
 rw [zj,zd hi];exact yd hi
theorem vQ {b N x:Int} (hN:0<=N) (D:1<=x) (B:x<=N) (z:M.bG b x=true):∃j,j<(M.aX b N).length/\(M.aX b N).getD j 0=x:=by
 obtain ⟨j,n,e⟩:=xw ((M.gh hN).mpr ⟨D,B,z⟩)
 exact ⟨j,n,by rw [zj,zd n];exact e⟩
theorem rR {b N:Int} {i j:Nat} (h:i<j) (n:j<(M.aX b N).length):(M.aX b N).getD i 0<(M.aX b N).getD j 0:=by
 have:=List.pairwise_iff_getElem.mp (M.gJ b N) i j (by omega) n h
 rw [zj,zd (show i<(M.aX b N).length by omega),zj,zd n]
 exact this
theorem nJ {b N:Int} (B:2<=b) (z:b<=36) (hN:0<=N) (n:N<=10 ^ 6):(M.aX b N).length<80000:=by
 have h1:=M.m8 b N
 have h2:=M.vp B z hN n
 omega
def S_w:eE:=λas R=>∃(n b N:Int),as=[.d (.int n),.d (.lst ((M.aX b N).map D.int)),.d (kn (M.aX b N))]/\0<=n/\n<=N/\N<=10 ^ 6/\2<=b/\b<=36/\(¬M.Sm b 2 n->R (.rd .non) as)/\∀L,M.Gt b 2 n L->R (.ro (L.map D.int)) as
theorem M5 {b n:Int} (h:M.Sm b 2 n):∃q,1<=q/\M.bG b q=true/\2 * q<=n/\M.bG b (n - q)=true:=by
 obtain ⟨L,w⟩:=h.way
 obtain ⟨p,r,rfl⟩:=w.cons
 obtain ⟨B,U,I,J⟩:=w.head
 obtain ⟨q,O,rfl⟩:=B.cons
 obtain ⟨z,q1,D,_⟩:=B.head
 have:=z.sum
 rw [yI.mp z.len] at this
 have e:n - p - q=0:=by simpa using this.symm
 have Y:=J q zn
 exact ⟨q,q1,D,by omega,by rw [show n - q=p by omega];exact I⟩
theorem ad3 (T:Zs K mg cs):Ok P w base 1 T.fU S_w:=by
 refine T.fU.F.gU W8 (λas R h=>?_) (λcdv A outer s H E C as R hK hr h=>?_)
 ·obtain ⟨_,_,_,rfl,_⟩:=h;rfl
 have hu:=hr.units
 obtain ⟨n,b,N,rfl,n0,n1,N6,b0,b1,q1,q2⟩:=h
 have U:0<=N:=by omega
 have lm:=nJ b0 b1 U N6
 refine ⟨_,(bf (jO zO rfl (dD hK (qv 1)) (aO (i:=3) W8.nd rfl lc) (bf (aL (i:=4) W8.nd rfl lc (bQ (qv 0) (qv 3)))
    (bf (bD (sS (qv 4) (qv 3)) (sr (jc ur (λ_=>.non))) aR)
    (aQ (bD (PB hu (qv 4) (qv 2)) (aQ (cH (dG (a2 (qv 4) (qv 3))))) aR)))))
    (sr (jc ur (λ_=>.non)))),?_⟩
 obtain ⟨I,Y⟩:∃I:Nat->aG->Prop,I=(λi p=>∃w3 w4:Option D,(∀j,j<i->M.bG b (n - (M.aX b N).getD j 0)=false/\2 * (M.aX b N).getD j 0<=n)/\p=[some (.d (.int n)),some (.d (.lst ((M.aX b N).map D.int))),some (.d (kn (M.aX b N))),Option.map Sl.d w3,Option.map Sl.d w4]):=⟨_,rfl⟩
 refine cj (mV (n:=((M.aX b N).map D.int).length) (item:=λi=>((M.aX b N).map D.int).getD i .non) (p1:=_) (λQ h=>by simp only [Hh];exact h) I (by rw [Y];exact ⟨none,none,λj J=>absurd J (by omega),rfl⟩) ?_ ?_)
 ·intro i p hi O
  rw [Y] at O
  obtain ⟨w3,w4,h0,rfl⟩:=O
  rw [z9] at hi
  obtain ⟨x1,x2,x3⟩:=M4 U hi
  rw [getD_ints hi]
  generalize hx:(M.aX b N).getD i 0=x at *
  have B:∀q,1<=q->M.bG b q=true->q<x->M.bG b (n - q)=false:=λq a1 a2 a3=>by
   obtain ⟨j,J,e⟩:=vQ U a1 (by omega) a2
   have hji:j<i:=by
    by_cases z:j<i
    ·exact z
    ·by_cases z2:j=i
     ·rw [z2,hx] at e;omega
     ·have:=rR (b:=b) (N:=N) (show i<j by omega) J
      rw [hx,e] at this
      omega
   have:=(h0 j hji).1
   rw [e] at this;exact this
  simp only [Hh]
  refine jk (λc=>?_) (λc=>?_)
  ·simp only [Hh]
   refine q1 λs=>?_
   obtain ⟨q,a1,a2,a3,Z⟩:=M5 s
   have:=B q a1 a2 (by omega)
   rw [this] at Z;cases Z
  ·simp only [Hh]
   rw [Rg U (by omega) (by omega)]
   refine Wq (λc2=>?_) (λc2=>?_)
   ·simp only [Hh]
    refine q2 [n - x,x] (.cons (by omega) c2 (.cons x1 x3 (by rw [show n - (n - x) - x=0 by omega];exact .nil) λq a1 a2 s=>?_) λq a1 a2 s=>?_)
    ·have:=s.none;omega
    ·obtain ⟨r,c1,c2',c3,c4⟩:=s.cut
     have e:=c4.none
     have:=B (n - q) (by omega) (by rw [show n - q=r by omega];exact c2') (by omega)
     rw [show n - (n - q)=q by omega,a2] at this;cases this
   ·show I (i+1) _
    rw [Y]
    refine ⟨some (.int x),some (.int (n - x)),λj J=>?_,rfl⟩
    by_cases z:j=i
    ·subst z
     rw [hx]
     exact ⟨c2,by omega⟩
    ·exact h0 j (by omega)
 ·intro p O
  rw [Y] at O
  obtain ⟨w3,w4,h0,rfl⟩:=O
  simp only [Hh]
  refine q1 λs=>?_
  obtain ⟨q,a1,a2,a3,Z⟩:=M5 s
  obtain ⟨j,J,e⟩:=vQ U a1 (by omega) a2
  have:=(h0 j (by rw [z9];exact J)).1
  rw [e,Z] at this;cases this
def G7 (z:Nat):eE:=λas R=>∃(n b N:Int) (m:Nat),as=[.d (.int n),.d (.int ((m:Nat):Int)),.d (.lst ((M.aX b N).map D.int)),.d (kn (M.aX b N))]/\0<=n/\n<=N/\N<=10 ^ 6/\2<=b/\b<=36/\2<=m/\m<=z/\m<=1000/\(¬M.Sm b m n->R (.rd .non) as)/\∀L,M.Gt b m n L->R (.ro (L.map D.int)) as
def S_k:eE:=G7 20
theorem Xi {b n:Int} {m:Nat} {L:List Int} (h:M.Gt b m n L):L.length=m:=h.way.len
theorem aaB (T:Zs K mg cs):∀O:Nat,Ok P w base (2+O) T.bY (G7 O):=by
 intro O
 have G_w:=ad3 P w base T
 induction O with
 | zero=>
  refine bO.imp (sp:=Gv K (G7 0)) (T.bY.F.gU QZ (λas R h=>?_) (λcdv A outer s H E C as R Z hr h=>?_)) (λ_ _ _ _ h=>h)
  ·obtain ⟨_,_,_,_,rfl,_⟩:=h;rfl
  ·obtain ⟨n,b,N,m,rfl,_,_,_,_,_,h1,h2,_,_⟩:=h;omega
 | succ O ih=>
  have G_k:=ih
  refine T.bY.F.gU (k:=2+O) QZ (λas R h=>?_) (λcdv A outer s H E C as R Z hr h=>?_)
  ·obtain ⟨_,_,_,_,rfl,_⟩:=h;rfl
  have hu:=hr.units
  obtain ⟨n,b,N,m,rfl,n0,n1,N6,b0,b1,m2,m3,m4,q1,q2⟩:=h
  have N0:0<=N:=by omega
  have lm:=nJ b0 b1 N0 N6
  refine ⟨_,(bf (bD (jJ Z hu (qv 1) qi) (aQ (cH (aj Z T.fU G_w hr.m (a3 (qv 0) (qv 2) (qv 3))))) aR)
    (bf (jO zO rfl (R3 Z rfl T.lW (a1 (qv 2))) (aO (i:=4) QZ.nd rfl lc) (bf (bD (sS (jH (qv 4) (qv 1)) (qv 0)) (sr (jc ur (λ_=>.non))) aR)
    (aQ (bD (sS (qv 4) (qv 0)) (bf (aL (i:=5) QZ.nd rfl lc (aq (aj Z T.bY G_k hr.m (cA (bQ (qv 0) (qv 4)) (a3 (bQ (qv 1) qi) (qv 2) (qv 3))))))
    (aQ (bD (Jl (qv 5)) (aQ (cH (RX (aq (dG (a1 (qv 4)))) (qv 5)))) aR))) aR))))
    (sr (jc ur (λ_=>.non))))),?_⟩
  refine ak λkk B=>?_
  simp only [R]
  refine mL (λc=>?_) (λc=>B _ ?_)
  ·have em:m=2:=by omega
   subst em
   simp only [Hg]
   exact ⟨n0,n1,N6,b0,b1,q1,q2⟩
  obtain ⟨m,rfl⟩:∃k,m=k+1:=⟨m - 1,by omega⟩
  obtain ⟨I,hI⟩:∃I:Nat->aG->Prop,I=(λi p=>∃w4 w5:Option D,(∀q,(i<(M.aX b N).length->(M.aX b N).getD ((M.aX b N).length - 1 - i) 0<q)->1<=q->q<=n->M.bG b q=true->¬M.Sm b m (n - q))/\p=[some (.d (.int n)),some (.d (.int ((m+1:Nat):Int))),some (.d (.lst ((M.aX b N).map D.int))),some (.d (kn (M.aX b N))),Option.map Sl.d w4,Option.map Sl.d w5]):=⟨_,rfl⟩
  refine cj (mV (n:=((M.aX b N).map D.int).length) (item:=λi=>((M.aX b N).map D.int).getD (((M.aX b N).map D.int).length - 1 - i) .non) (p1:=_) (λQ h=>by simp only [Hh];exact h) I (by
   rw [hI]
   refine ⟨none,none,λq J a1 a2 a3=>?_,rfl⟩
   exfalso
   obtain ⟨j,hj,e⟩:=vQ N0 a1 (by omega) a3
   have h1:=J (by omega)
   by_cases z:j=(M.aX b N).length - 1
   ·subst z
    rw [show (M.aX b N).length - 1 - 0=(M.aX b N).length - 1 by omega,e] at h1
    omega
   ·have:=rR (b:=b) (N:=N) (show j<(M.aX b N).length - 1 by omega) (by omega)
    rw [e] at this
    rw [show (M.aX b N).length - 1 - 0=(M.aX b N).length - 1 by omega] at h1
    omega) ?_ ?_)
  ·intro i p hi U
   rw [hI] at U
   obtain ⟨w4,w5,h0,rfl⟩:=U
   rw [z9] at hi
   have Y:(M.aX b N).length - 1 - i<(M.aX b N).length:=by omega
   obtain ⟨x1,x2,x3⟩:=M4 N0 Y
   rw [z9,getD_ints Y]
   have step:∀q,(i+1<(M.aX b N).length->(M.aX b N).getD ((M.aX b N).length - 1 - (i+1)) 0<q)->1<=q->M.bG b q=true->q<=n->(M.aX b N).getD ((M.aX b N).length - 1 - i) 0<=q:=λq J a1 a2 a3=>by
    obtain ⟨j,hj,e⟩:=vQ N0 a1 (by omega) a2
    by_cases z:(M.aX b N).length - 1 - i<=j
    ·by_cases z2:(M.aX b N).length - 1 - i=j
     ·rw [z2,e];exact yn _
     ·have:=rR (b:=b) (N:=N) (show (M.aX b N).length - 1 - i<j by omega) hj
      rw [e] at this;omega
    ·exfalso
     have h1:=J (by omega)
     by_cases z2:j=(M.aX b N).length - 1 - (i+1)
     ·rw [<-z2,e] at h1;omega
     ·have:=rR (b:=b) (N:=N) (show j<(M.aX b N).length - 1 - (i+1) by omega) (by omega)
      rw [e] at this;omega
   generalize hx:(M.aX b N).getD ((M.aX b N).length - 1 - i) 0=x at *
   have above:∀q,x<q->q<=n->M.bG b q=true->¬M.Sm b m (n - q):=λq a1 a2 a3=>h0 q (λ_=>a1) (by omega) a2 a3
   simp only [Hg]
   refine ak λkk B=>?_
   simp only [R]
   refine ⟨Or.inl ⟨by omega,by omega⟩,?_⟩
   refine mL (λc3=>?_) (λc3=>B _ ?_)
   ·exact q1 (M.WK c3 above)
   simp only [R]
   refine mL (λc4=>?_) (λc4=>?_)
   ·refine ak λkk B=>?_
    simp only [R,G7]
    refine ⟨b,N,m,by omega,rfl,rfl,by omega,by omega,N6,b0,b1,by omega,by omega,by omega,λhn=>B _ ?_,λL gL=>B _ ?_⟩
    ·simp only [Hh]
     rw [hI]
     refine ⟨some (.int x),some .non,λq J a1 a2 a3=>?_,rfl⟩
     have h1:=step q J a1 a3 a2
     by_cases z:q=x
     ·subst z;exact hn
     ·exact above q (by omega) a2 a3
    ·simp only [Q]
     refine ⟨by rw [z9,Xi gL];omega,?_⟩
     exact q2 (x::L) (.cons x1 x3 gL λq a1 a2 s=>above q a1 (by have:=s.nn;omega) a2 s)
   ·simp only [Hh]
    rw [hI]
    refine ⟨some (.int x),w5,λq J a1 a2 a3=>?_,rfl⟩
    have h1:=step q J a1 a3 a2
    by_cases z:q=x
    ·subst z
     intro s
     have h2:n - q=0:=by have:=s.nn;omega
     have:=M.LK s (by omega)
     omega
    ·exact above q (by omega) a2 a3
  ·intro p U
   rw [hI] at U
   obtain ⟨w4,w5,h0,rfl⟩:=U
   rw [z9] at h0
   simp only [Hh]
   refine q1 λs=>?_
   obtain ⟨p,a1,a2,a3,a4⟩:=s.cut
   exact h0 p (λz=>absurd z (by omega)) a1 a3 a2 a4
theorem ad5 (T:Zs K mg cs):Ok P w base 22 T.bY S_k:=aaB _ _ _ T 20
def S_T:eE:=λas R=>∃n b:Int,as=[.d (.int n),.d (.int b)]/\0<=n/\n<=10 ^ 6/\2<=b/\b<=36/\∀L,M.Gt b (M.nd b n) n L->R (.ro (L.map D.int)) as
theorem Rh {b:Int} (n:2<=b):M.Gt b (M.nd b 0) 0 []:=by rw [M.vD n];exact .nil
theorem Xj {b n:Int} (B:2<=b) (z:1<=n) (h:M.bG b n=true):M.Gt b (M.nd b n) n [n]:=by
 have h1:=(M.CT B z).mpr h
 have h2:=M.CQ B z
 rw [show M.nd b n=0+1 by omega]
 refine .cons z h (by rw [Int.sub_self];exact .nil) λq a1 a2 s=>?_
 have:=s.none
 omega
theorem ad6 (T:Zs K mg cs):Ok P w base 23 T.rP S_T:=by
 have Aq:=jY P w base T
 have G_i:=Q6 P w base T
 have G_c:=MP P w base T
 have G_k:=ad5 P w base T
 refine T.rP.F.gU Dd (λas R h=>?_) (λcdv A outer s H E C as R hK hr h=>?_)
 ·obtain ⟨_,_,rfl,_⟩:=h;rfl
 have hu:=hr.units
 obtain ⟨n,b,rfl,n0,n1,U,b1,q⟩:=h
 have nB:n<M.vh:=M.CN (yz n1 (by decide))
 have lm:=nJ U b1 n0 n1
 have ag9:M.nd b n<=20:=M.CV U 20 n0 (by omega)
 refine ⟨_,(bf (qO (aq (aj hK T.aJ Aq hr.m (a1 (qv 1)))))
    (bf (bD (jJ hK hu (qv 0) qi) (aQ (cH (dG pq))) aR)
    (bf (bD (fu (aq (aj hK T.cR G_i hr.m (a2 (qv 0) (qv 1))))) (aQ (cH (dG (a1 (qv 0))))) aR)
    (bf (aL (i:=2) Dd.nd rfl lc (aq (aj hK T.cC G_c hr.m (a2 (qv 0) (qv 1)))))
    (bf (PJ (i:=3) Dd.nd rfl lc (N:=["part","number","base","parts","known","many","way"]) (k:=1) (aV.of (show gr (aa s_T) ["number","base","parts","known","many","way"] _ ["part","number","base","parts","known","many","way"] 1 from ⟨by rfl,by decide,by decide,by rfl,by decide,by decide,by decide,by decide⟩)) rfl (dD hK (qv 2)) (λZ s H fp=>(dJ (i:=0) (by decide) (show List.Nodup (["part","number","base","parts","known","many","way"]:List Str) by decide) rfl (Or.inl rfl) (Or.inr rfl))) (λZ s H fp=>jT) (λZ s H fp=>(qv 0)) (λZ s H fp=>(jc cO (λ_=>.bl _))))
    (bf (aL (i:=4) Dd.nd rfl lc qi)
    (bf (lE (i:=5) Dd.nd rfl lc (aj hK T.bY G_k hr.m (cA (qv 0) (a3 (qv 4) (qv 2) (qv 3)))))
    (bf (JL zO (YZ (qv 5)) (bf (Y6 (i:=4) Dd.nd rfl lc qi)
    (aQ (lE (i:=5) Dd.nd rfl lc (aj hK T.bY G_k hr.m (cA (qv 0) (a3 (qv 4) (qv 2) (qv 3))))))))
    (aQ (oE (i:=5) (pv 5))))))))))),?_⟩
 refine ak λkk B=>?_
 simp only [Hg]
 refine ⟨U,b1,B _ ?_⟩
 refine ak λkk B=>?_
 simp only [R]
 refine mL (λc=>?_) (λc=>B _ ?_)
 ·subst c
  exact q [] (Rh U)
 refine ak λkk B=>?_
 simp only [R,S_i]
 refine ⟨n0,nB,U,b1,mL (λc=>?_) (λc2=>B _ ?_)⟩
 ·exact q [n] (Xj U (by omega) c)
 have nd2:2<=M.nd b n:=by
  have h1:=M.CT U (show 1<=n by omega)
  by_cases z:M.nd b n<=1
  ·exact absurd (h1.mp z) c2
  ·omega
 obtain ⟨sn,aaC⟩:=M.kj U n0
 refine ak λkk B=>?_
 simp only [R,X5]
 refine ⟨n0,n1,U,b1,B _ ?_⟩
 refine ak λkk B=>?_
 unfold J0 uT
 simp only [R]
 obtain ⟨I,hI⟩:∃I:Nat->List Key × List D->aG->Prop,I=(λj kd p=>kd=(((M.aX b n).take j).map Sum.inl,((M.aX b n).take j).map (λ_=>D.bl true))/\∃o:Option D,p=[Option.map Sl.d o,some (.d (.int n)),some (.d (.int b)),some (.d (.lst ((M.aX b n).map D.int))),none,none,none]):=⟨_,rfl⟩
 refine ⟨I,by rw [hI];exact ⟨rfl,none,rfl⟩,by rw [z9];omega,λj kd p hj hp=>?_,λkd p hp=>?_⟩
 ·rw [hI] at hp
  obtain ⟨rfl,o,rfl⟩:=hp
  rw [z9] at hj
  rw [getD_ints hj]
  have tk:(M.aX b n).take (j+1)=(M.aX b n).take j++[(M.aX b n).getD j 0]:=by
   rw [List.take_succ,zj,zd hj];rfl
  refine ⟨by rw [z9,yG];omega,?_⟩
  simp only [Q]
  refine ⟨λz=>?_,?_⟩
  ·obtain ⟨y,h1,h2⟩:=zZ.mp z
   cases h2
   obtain ⟨i,hi,e⟩:=xw h1
   rw [yG] at hi
   rw [List.getElem_take] at e
   have:=rR (b:=b) (N:=n) (show i<j by omega) hj
   rw [zj,zd (show i<(M.aX b n).length by omega)] at this
   have e2:(M.aX b n)[i]=(M.aX b n).getD j 0:=e
   simp only [Option.getD_some] at this
   omega
  ·rw [hI]
   exact ⟨by rw [tk,yp,yp];rfl,some _,rfl⟩
 rw [hI] at hp
 obtain ⟨rfl,o,rfl⟩:=hp
 have ek:D.sO (((M.aX b n).take ((M.aX b n).map D.int).length).map Sum.inl) (((M.aX b n).take ((M.aX b n).map D.int).length).map (λ_=>D.bl true))=kn (M.aX b n):=by
  rw [z9,List.take_of_length_le (zC _)];rfl
 rw [ek]
 refine ⟨rfl,B _ ?_⟩
 refine ak λkk B=>?_
 simp only [R]
 refine B _ ?_
 refine ak λkk B=>?_
 simp only [R,S_k,G7]
 have O:∀j,j<2->¬M.Sm b j n:=λj hj=>aaC j (by omega)
 have go:∀(m:Nat) (v:Option Sl),(∀j,j<m->¬M.Sm b j n)->2<=m->m<=M.nd b n->((v=some (.d .non)/\¬M.Sm b m n)\/∃L:List Int,v=some (.own (L.map D.int))/\M.Gt b m n L)->kk [some (.d (.int n)),some (.d (.int b)),some (.d (.lst ((M.aX b n).map D.int))),some (.d (kn (M.aX b n))),some (.d (.int ((m:Nat):Int))),v]:=λm v h1 h2 h3 Y=>by
  refine B _ ?_
  obtain ⟨J,hJ⟩:∃J:aG->Prop,J=(λp=>∃(m:Nat) (v:Option Sl),(∀j,j<m->¬M.Sm b j n)/\2<=m/\m<=M.nd b n/\((v=some (.d .non)/\¬M.Sm b m n)\/∃L:List Int,v=some (.own (L.map D.int))/\M.Gt b m n L)/\p=[some (.d (.int n)),some (.d (.int b)),some (.d (.lst ((M.aX b n).map D.int))),some (.d (kn (M.aX b n))),some (.d (.int ((m:Nat):Int))),v]):=⟨_,rfl⟩
  refine cj (mW J (λp=>match p[4]? with|some (some (Sl.d (D.int r)))=>30 - r.toNat|_=>0) (by rw [hJ];exact ⟨m,v,h1,h2,h3,Y,rfl⟩) ?_)
  intro p hp
  rw [hJ] at hp
  obtain ⟨m,v,h1,h2,h3,Y,rfl⟩:=hp
  rcases Y with ⟨rfl,Y⟩|⟨L,rfl,Y⟩
  ·simp only [Q,S_k,G7]
   have m1:m+1<=M.nd b n:=by
    by_cases z:m=M.nd b n
    ·rw [z] at Y;exact absurd sn Y
    ·omega
   have nx:∀j,j<m+1->¬M.Sm b j n:=λj hj=>by
    by_cases z:j=m
    ·rw [z];exact Y
    ·exact h1 j (by omega)
   refine ⟨n0,yn _,n1,U,b1,by omega,by omega,by omega,λhn=>⟨?_,by omega⟩,λL gL=>⟨?_,by omega⟩⟩
   ·rw [hJ]
    exact ⟨m+1,_,nx,by omega,m1,.inl ⟨rfl,hn⟩,rfl⟩
   ·rw [hJ]
    exact ⟨m+1,_,nx,by omega,m1,.inr ⟨L,rfl,gL⟩,rfl⟩
  ·simp only [Q]
   have em:m=M.nd b n:=by
    by_cases z:m=M.nd b n
    ·exact z
    ·exact absurd Y.way.sm (aaC m (by omega))
   subst em
   exact q L Y
 refine ⟨n0,yn _,n1,U,b1,λhn=>?_,λL gL=>?_⟩
 ·exact go 2 _ O (zC _) nd2 (.inl ⟨rfl,hn⟩)
 ·exact go 2 _ O (zC _) nd2 (.inr ⟨L,rfl,gL⟩)
def ad7:eE:=λas R=>∃n b:Int,as=[.d (.int n),.d (.int b)]/\0<=n/\n<M.vh/\2<=b/\b<=36/\∀L,M.Fw b n L->R (.ro (L.map D.int)) as
theorem aaD (T:Zs K mg cs):Ok P w base 6 T.vP ad7:=by
 have Aq:=jY P w base T
 have G_E:=Xe P w base T
 refine T.vP.F.gU Al (λas R h=>?_) (λcdv A outer s H E C as R Y U h=>?_)
 ·obtain ⟨_,_,rfl,_⟩:=h;rfl
 have hu:=U.units
 obtain ⟨n,b,rfl,n0,n1,O,b1,q⟩:=h
 refine ⟨_,(bf (qO (aq (aj Y T.aJ Aq U.m (a1 (qv 1)))))
    (bf (lE (i:=2) Al.nd rfl lc (dG pq))
    (bf (aL (i:=3) Al.nd rfl lc (qv 0))
    (bf (JL zO (xK (qv 3) qi) (bf (aL (i:=4) Al.nd rfl lc (aq (aj Y T.i_ G_E U.m (a2 (qv 3) (qv 1)))))
    (bf (qO (jL Y (pv 2) (a1 (qv 4))))
    (aQ (Vv (i:=3) Al.nd rfl lc (qv 4))))))
    (aQ (oE (i:=2) (pv 2))))))),?_⟩
 simp only [Hh]
 refine ⟨O,b1,?_⟩
 simp only [Ho]
 simp only [Ho]
 simp only [Ho]
 simp only [Ho]
 simp only [Ho]
 simp only [Ho]
 dsimp only
 refine cj ?_
 obtain ⟨I,Z⟩:∃I:aG->Prop,I=(λp=>∃(ds:List Int) (B:Int) (v:Option D),p=[some (.d (.int n)),some (.d (.int b)),some (.own (ds.map D.int)),some (.d (.int B)),Option.map Sl.d v]/\0<=B/\B<=n/\B * 2 ^ ds.length<=n/\∀L,M.Fw b B L->M.Fw b n (ds++L)):=⟨_,rfl⟩
 refine mW I (λp=>match p[3]? with|some (some (Sl.d (D.int r)))=>r.toNat|_=>0) (by rw [Z];exact ⟨[],n,none,rfl,n0,yn _,by simp,λL h=>h⟩) ?_
 intro p hp
 rw [Z] at hp
 obtain ⟨ds,B,v,rfl,l0,l1,l2,l3⟩:=hp
 simp only [Hh]
 refine jk (λc=>?_) (λc=>?_)
 ·have len:ds.length<4000:=by
   have h1:=zB (show (1:Int)<=B by omega) (show (0:Int)<=2 ^ ds.length by have:=M.au (show (0:Int)<2 by decide) ds.length;omega)
   have h2:(2:Int) ^ ds.length<2 ^ 4000:=by rw [<-M.mZ];omega
   by_cases z:ds.length<4000
   ·exact z
   ·have:=M.bz (b:=2) (by decide) (show 4000<=ds.length by omega)
    exact absurd h2 (Int.not_lt.mpr this)
  simp only [Hh]
  refine ⟨l0,by omega,O,b1,λm J=>?_⟩
  have m1:=J.one O (show 1<=B by omega)
  have m2:=J.le
  have m3:=J.half O (show 1<=B by omega)
  simp only [Hh]
  refine ⟨by rw [z9];omega,?_⟩
  simp only [Hh]
  refine ⟨?_,show (B - m).toNat<B.toNat by omega⟩
  rw [Z]
  refine ⟨ds++[m],B - m,some (.int m),by rw [yp];rfl,by omega,by omega,?_,λL hL=>?_⟩
  ·rw [zt,yj,zL,yA (2 ^ ds.length) 2,<-xF]
   have:=zB (show (B - m) * 2<=B by omega) (show (0:Int)<=2 ^ ds.length by have:=M.au (show (0:Int)<2 by decide) ds.length;omega)
   omega
  ·rw [yt]
   exact l3 _ (.cons (by omega) J hL)
 ·have e:B=0:=by omega
  simp only [Hh]
  subst e
  have:=l3 [] .nil
  rw [ya] at this
  exact q _ this
def wt (ns:List Int):Str:=if ns=[] then "0" else Txt.join TX.sep (ns.map TX.tx)
def S_G:eE:=λas R=>∃w:Str,as=[.d (.str w),.d (.int 41)]/\w.cps.all (·<128)=true/\w.length<=100000/\R (.rd (.bl (TX.wr w))) as
theorem aaE:("0":Str).cps.toList=[48]:=by decide
theorem Xk {c:Nat} (h:c≠48):((⟨#[c]⟩:Str)="0")=False:=eq_false λz=>by
 have:=zV (λs:Str=>s.cps.toList) z
 simp only [aaE] at this
 simp at this
 exact h this
theorem Xl {w:Str} (z:w.cps.all (·<128)=true) {i:Nat} (hi:i<w.cps.size):w.cps.getD i 0<128/\w.cps.getD i 0∈w.cps.toList:=by
 have n:w.cps.getD i 0∈w.cps.toList:=by
  rw [Array.getD_eq_getD_getElem?,Array.getElem?_eq_getElem hi]
  exact Array.getElem_mem_toList hi
 rw [<-xq,yF] at z
 exact ⟨xm (z _ n),n⟩
theorem ad8 (T:Zs K mg cs):Ok P w base 1 T.jx S_G:=by
 obtain ⟨B,eN⟩:=T.eN
 refine T.jx.F.gU aac (λas R h=>?_) (λcdv A outer s H E C as R hK hr h=>?_)
 ·obtain ⟨_,rfl,_⟩:=h;rfl
 have hu:=hr.units
 obtain ⟨w,rfl,wa,wl,q⟩:=h
 have ef:("0123456789":Str)=TX.LR:=rfl
 have ll:=TX.bN w
 refine ⟨_,(bf (bD (d7 (pP oZ oZ qi (Eg rfl T.fK (a1 (qv 0))) (qv 1))) (sr (jc cO (λ_=>.bl _))) aR)
    (bf (jO zO rfl (Zn (qv 0)) (aO (i:=2) aac.nd rfl lc) (aQ (bD (J8 (qv 2) (jc (gV (v:=.str "0123456789") rfl eN ⟨_,rfl⟩) (λ_=>.str _))) (sr (jc cO (λ_=>.bl _))) aR)))
    (sr (Y0 (sU hK hu (Eg rfl T.fK (a1 (qv 0))) qi) (Jq (ab6 hK hu (Zm (qv 0) qi (λ_ _=>rfl)) qs)))))),?_⟩
 refine ak λkk hkk=>?_
 simp only [R]
 refine ⟨by omega,?_⟩
 refine mL (λc1=>mL (λc2=>hkk _ ?_) (λc2=>?_)) (λc1=>?_)
 rotate_left
 ·have e:TX.wr w=false:=by
   unfold TX.wr
   rw [zQ (show ¬w.length<=41 by omega)];simp
  rw [e] at q;exact q
 ·have e:TX.wr w=false:=by
   unfold TX.wr
   rw [zQ (show ¬1<=w.length by omega)];simp
  rw [e] at q;exact q
 obtain ⟨I,Y⟩:∃I:Nat->aG->Prop,I=(λ(i:Nat) p=>∃Z:Option D,p=[some (.d (.str w)),some (.d (.int 41)),Option.map Sl.d Z]/\∀j,j<i->48<=w.cps.getD j 0/\w.cps.getD j 0<=57):=⟨_,rfl⟩
 refine cj (mV (n:=w.cps.size) (item:=λi=>.str ⟨#[w.cps.getD i 0]⟩) (p1:=_) (λQ h=>by simp only [Q];exact ⟨wa,h⟩) I (by rw [Y];exact ⟨none,rfl,λj O=>absurd O (Nat.not_lt_zero _)⟩) ?_ ?_)
 ·intro i p hi J
  rw [Y] at J
  obtain ⟨Z,rfl,J⟩:=J
  obtain ⟨U,hm⟩:=Xl wa hi
  by_cases dd:48<=w.cps.getD i 0/\w.cps.getD i 0<=57
  ·have fi:=TX.WM _ dd
   simp only [Q,ef,fi]
   rw [Y]
   refine ⟨some _,rfl,λj O=>?_⟩
   by_cases y:j=i
   ·rw [y];exact dd
   ·exact J j (by omega)
  ·have fi:=TX.QC _ U dd
   have e:TX.wr w=false:=by
    unfold TX.wr
    have:(w.cps.toList.all λc=>decide (48<=c) && decide (c<=57))=false:=by
     cases z:(w.cps.toList.all λc=>decide (48<=c) && decide (c<=57)) with
     | false=>rfl
     | true=>
      rw [yF] at z
      have:=z _ hm
      simp only [yx,yw] at this
      exact absurd this dd
    rw [this,Bool.and_false]
   rw [e] at q
   simp only [Q,ef,fi]
   exact q
 ·intro p J
  rw [Y] at J
  obtain ⟨Z,rfl,J⟩:=J
  have all:(w.cps.toList.all λc=>decide (48<=c) && decide (c<=57))=true:=by
   rw [yF]
   intro c hc
   obtain ⟨j,O,ej⟩:=xw hc
   have:=J j (by rw [xv] at O;exact O)
   rw [Array.getD_eq_getD_getElem?,Array.getElem?_eq_getElem (by rw [xv] at O;exact O)] at this
   simp at ej this
   rw [ej] at this
   simp [this]
  cases hl:w.cps.toList with
  | nil=>rw [hl] at ll;simp at ll;omega
  | cons c r=>
   have at0:h_ w.cps.toList 0=some c:=by rw [hl];have h:h_ (c::r) ((0:Nat):Int)=some c:=j4 rfl;exact h
   have e:TX.wr w=(decide (w.length=1) || !decide (c=48)):=by
    unfold TX.wr
    rw [all,zW (show 1<=w.length by omega),zW (show w.length<=41 by omega),hl]
    by_cases y:c=48<;>simp [y]
   simp only [Q,at0]
   rw [e] at q
   refine ⟨wl,mL (λc3=>?_) (λc3=>⟨wl,?_⟩)⟩
   ·rw [zW (show w.length=1 by omega),Bool.true_or] at q;exact q
   ·rw [zQ (show ¬w.length=1 by omega),Bool.false_or] at q
    have ec:decide ((⟨#[c]⟩:Str)=("0":Str))=decide (c=48):=by
     by_cases y:c=48
     ·have:(⟨#[c]⟩:Str)=("0":Str):=TX.jV (by rw [aaE,y])
      rw [zW this,zW y]
     ·have:=Xk y
      rw [zQ (by rw [this];exact id),zQ y]
    have ec2:(Str.ofString "0")=("0":Str):=rfl
    rw [ec2,ec]
    exact q
theorem ad9:(" + ":Str)=TX.sep:=rfl
theorem Dh (ns:List Int):(List.range ns.length).map (λi=>D.str (TX.tx (ns.getD i 0)))=(ns.map TX.tx).map D.str:=by
 rw [List.map_map]
 have e:=zV (List.map (D.str ∘ TX.tx)) (M.range_getD ns)
 rw [List.map_map] at e
 exact e
structure Wz (ns:List Int):Prop where
 jD:∀n∈ns,1<=n/\n<10 ^ 50
 few:ns.length<=20000
theorem Wz.at {ns:List Int} (h:Wz ns) {i:Nat} (hi:i<ns.length):TX.Nz (ns.getD i 0):=by
 have:1<=ns.getD i 0/\ns.getD i 0<10 ^ 50:=h.jD _ (by rw [zj,zd hi];exact yd hi)
 exact TX.bA (by omega) this.2
theorem vR {sp:Str} {ns:List Int} (I:sp.length<=5) (h:∀n∈ns,0<=n/\n<10 ^ 50) (l:ns.length<=20000):JoinOk sp (ns.map TX.tx)=true:=by
 have f:=StrLaws.joinFits (sep:=sp) (texts:=ns.map TX.tx) (B:=50) (λy D=>by
  obtain ⟨n,z,rfl⟩:=zZ.mp D
  exact (TX.bA (h n z).1 (h n z).2).len) (by
  rw [z9]
  have:ns.length * sp.length<=20000 * 5:=Nat.mul_le_mul l I
  omega)
 unfold JoinOk
 rw [f];rfl
def S_x:eE:=λas R=>∃ns:List Int,as=[.d (.lst (ns.map D.int))]/\Wz ns/\R (.rd (.str (wt ns))) as
theorem Ri (T:Zs K mg cs):Ok P w base 1 T.eV S_x:=by
 obtain ⟨B,iB⟩:=T.iB
 refine T.eV.F.gU adx (λas R h=>?_) (λcdv A outer s H E C as R O hr h=>?_)
 ·obtain ⟨_,rfl,_⟩:=h;rfl
 have Y:=hr.units
 obtain ⟨ns,rfl,I,q⟩:=h
 have few:=I.few
 refine ⟨_,(bf (bD (jJ O Y (dH O rfl T.fK (a1 (qv 0))) qi) (sr (jc (gV (v:=.str "0") rfl iB ⟨_,rfl⟩) (λ_=>.str _))) aR)
    (sr (Ci O qs (a1 (aq (lJ (N:=["part","way"]) (k:=1) (aV.of (show gr (aa s_x) ["way"] _ ["part","way"] 1 from ⟨by rfl,by decide,by decide,by rfl,by decide,by decide,by decide,by decide⟩)) rfl (dD O (qv 0)) (λZ s H fp=>(dJ (i:=0) (by decide) (show List.Nodup (["part","way"]:List Str) by decide) rfl (Or.inl rfl) (Or.inr rfl))) (λZ s H fp=>jT) (λZ s H fp=>(aH rfl T.bw (a1 (qv 0)))))))))),?_⟩
 refine ak λkk U=>?_
 simp only [R,z9]
 refine mL (λc=>?_) (λc=>U _ ?_)
 ·have e:ns=[]:=yI.mp (by omega)
  subst e
  exact q
 have ne:ns≠[]:=λz=>c (by rw [z];rfl)
 rw [show wt ns=Txt.join TX.sep (ns.map TX.tx) by unfold wt;rw [zi ne]] at q
 simp only [S]
 refine comp_map (n:=(ns.map D.int).length) (item:=λi=>(ns.map D.int).getD i .non) (p1:=_) (λQ h=>by simp only [Q];exact h) (by rw [z9];omega) (λi=>.str (TX.tx (ns.getD i 0))) (λi R hi h=>?_) ?_
 ·rw [z9] at hi
  rw [getD_ints hi] at h ⊢
  have J:=I.at hi
  simp only [Q]
  exact ⟨J.lg,h⟩
 rw [z9,Dh]
 simp only [Q]
 exact ⟨vR (by decide) (λn J=>⟨by have:=(I.jD n J).1;omega,(I.jD n J).2⟩) few,q⟩
def S_D:eE:=λas R=>∃(w:Str) (z n:Int),as=[.d (.str w),.d (.int z)]/\w.cps.all (·<128)=true/\w.length<=100000/\TX.num w z=some n/\R (.rd (.int n)) as
theorem aea (T:Zs K mg cs):Ok P w base 2 T.iC S_D:=by
 have D:=ad8 P w base T
 obtain ⟨z,gO⟩:=T.gO
 refine T.iC.F.gU aad (λas R h=>?_) (λcdv A outer s H E C as R hK U h=>?_)
 ·obtain ⟨_,_,_,rfl,_⟩:=h;rfl
 have hu:=U.units
 obtain ⟨w,bd,n,rfl,wa,Z,hn,q⟩:=h
 obtain ⟨J,n1,n2,rfl⟩:=TX.gK hn
 have Y:=TX.Sv J n1
 have I:=TX.bA J (yL n1 (by decide))
 refine ⟨_,(bf (bD (d7 (fu (aq (aj hK T.jx D U.m (a2 (qv 0) (jc (gV (v:=.int 41) rfl gO ⟨_,rfl⟩) (λ_=>.int _))))))) (aQ qP) aR)
    (bf (aL (i:=2) aad.nd rfl lc (gf rfl T.iY (a1 (qv 0))))
    (bf (bD (xK (qv 2) (qv 1)) (aQ qP) aR)
    (sr (qv 2))))),?_⟩
 refine ak λO B=>?_
 simp only [R,S_G,Y]
 refine ⟨wa,Z,B _ ?_⟩
 refine ak λO B=>?_
 simp only [R]
 refine ⟨_,I.rd,by have:=I.len;omega,B _ ?_⟩
 refine ak λO B=>?_
 simp only [R]
 rw [zi (by omega)]
 refine B _ ?_
 simp only [Q]
 exact q
theorem M6 (t:Str):Txt.split t TX.dw≠[]:=by
 unfold Txt.split
 split
 ·simp
 ·split
  ·simp
  ·unfold Builtin.Str.partsBetween
   intro z
   have:=zV List.length z
   simp at this
theorem M7 {K:PySem.W.Frag} {w:Str}:∀{n:List (Str × Addr)} {B:List (Str × List Int)},Mz K n B->PyProof.Rows.KTD.inKeys w n=(B.lookup w).isSome/\∀ns,B.lookup w=some ns->∃a,PyProof.Rows.KTD.datumAt w n=some a/\NB K a ns
 | _,_,.nil=>⟨rfl,λns h=>by cases h⟩
 | _,_,.cons (x:=x) (a:=a) (ns:=ns) hk r=>by
  obtain ⟨I,D⟩:=M7 (w:=w) r
  unfold PyProof.Rows.KTD.inKeys PyProof.Rows.KTD.datumAt
  rw [y9]
  by_cases z:w=x
  ·subst z
   refine ⟨by simp,λns h=>⟨a,by simp,?_⟩⟩
   simp at h
   rw [<-h];exact hk
  ·have:(w == x)=false:=by simpa using z
   rw [this,zQ z,zi yg]
   exact ⟨by simpa using I,D⟩
theorem Rj {ws:List Str} {i:Nat} (hi:i<ws.length):(ws.map D.str).getD i .non=.str (ws.getD i Str.empty)/\ws.getD i Str.empty∈ws:=by
 refine ⟨?_,?_⟩
 ·rw [zj,zP,zj,zd hi];rfl
 ·rw [zj,zd hi];exact yd hi
theorem Xm:(" ":Str)=TX.dw:=rfl
def S_s:eE:=λas R=>∃(w f:Str) (ns:List Int),as=[.d (.str w)]/\w.cps.all (·<128)=true/\w.length<=50000/\TX.rowOf w=some (f,ns)/\R (.rd (.tup [.str f,.lst (ns.map D.int)])) as
theorem Xn (T:Zs K mg cs):Ok P w base 3 T.gQ S_s:=by
 have G_D:=aea P w base T
 refine T.gQ.F.gU QK (λas R h=>?_) (λcdv A outer s H E C as R J hr h=>?_)
 ·obtain ⟨_,_,_,rfl,_⟩:=h;rfl
 have hu:=hr.units
 obtain ⟨w,f,ns,rfl,wa,wl,B,q⟩:=h
 have wm:=TX.WR w
 have wo:∀x∈Txt.split w TX.dw,x.cps.all (·<128)=true/\x.length<=w.length:=λx hx=>TX.Z4 wa hx
 unfold TX.rowOf at B
 have kB:=T.bB
 refine ⟨_,(bf (bD (d7 (fu (BW (T:="str") J (by first|exact .inl rfl|exact .inr (.inl rfl)|exact .inr (.inr (.inl rfl))|exact .inr (.inr (.inr (.inl rfl)))|exact .inr (.inr (.inr (.inr rfl)))) rfl T.jn (a2 (qv 0) (jc (uv (v:=.ty "str") rfl T.bw (by kernel_rfl) rfl) (λ_=>.atom _)))))) (aQ qP) aR)
    (bf (jM (aq (uV J (qv 0) (a1 qs))) (Wo J rfl (aO (i:=1) QK.nd rfl lc) (aO (i:=2) QK.nd rfl lc)))
    (bf (bD (Wm T.kB rfl T.mB (qv 1)) (aQ qP) aR)
    (bf (aL (i:=3) QK.nd rfl lc (K6 T.kB rfl T.mB (qv 1) (λ_ _=>rfl)))
    (bf (bD (qK J hu (dH J rfl T.fK (a1 (qv 2))) (Qo rfl T.fK (a1 (qv 3)))) (aQ qP) aR)
    (sr (DY (a2 (qv 1) (aq (lJ (N:=["word","bound","words","first","others","bounds"]) (k:=2) (aV.of (show gr (aa s_s) ["words","first","others","bounds"] _ ["word","bound","words","first","others","bounds"] 2 from ⟨by rfl,by decide,by decide,by rfl,by decide,by decide,by decide,by decide⟩)) rfl (Wl J rfl T.Z_ (a2 (qv 2) (qv 3))) (λZ s H fp=>(VD (n:=2) J rfl (xV (dJ (i:=0) (by decide) (show List.Nodup (["word","bound","words","first","others","bounds"]:List Str) by decide) rfl (Or.inl rfl) (Or.inr rfl)) (xV (dJ (i:=1) (by decide) (show List.Nodup (["word","bound","words","first","others","bounds"]:List Str) by decide) rfl (Or.inl rfl) (Or.inr rfl)) Pr)))) (λZ s H fp=>jT) (λZ s H fp=>(aq (aj J T.iC G_D hr.m (a2 (qv 0) (qv 1))))))))))))))),?_⟩
 refine ak λO I=>?_
 simp only [R]
 refine I _ ?_
 refine ak λO I=>?_
 simp only [R,Xm]
 refine ⟨by omega,by omega,?_⟩
 cases hs:Txt.split w TX.dw with
 | nil=>exact absurd hs (M6 w)
 | cons g os=>
  rw [hs] at B wm wo
  simp only at B
  cases Y:TX.BT.lookup g with
  | none=>rw [Y] at B;cases B
  | some bs=>
   rw [Y] at B
   simp only [Option.bind_some] at B
   cases U:TX.nums os bs with
   | none=>rw [U] at B;cases B
   | some ms=>
    rw [U] at B
    cases (B)
    obtain ⟨k1,k2⟩:=M7 (w:=f) kB
    rw [Y] at k1
    obtain ⟨a,ha,hk⟩:=k2 bs Y
    obtain ⟨l1,l2⟩:=TX.jW U
    refine ⟨_,_,rfl,?_⟩
    simp only [R]
    refine I _ ?_
    refine ak λO I=>?_
    simp only [R,k1]
    refine I _ ?_
    refine ak λO I=>?_
    simp only [R,ha]
    refine I _ ?_
    refine ak λO I=>?_
    simp only [R,z9]
    refine ⟨bs,hk,?_⟩
    rw [zo (by rw [l1])]
    refine I _ ?_
    simp only [S]
    simp only [zJ] at wm
    refine CJ (n:=(os.map D.str).length) (m:=100000) (a:=λi=>(os.map D.str).getD i .non) (b:=λi=>.int (bs.getD i 0)) (p1:=_) (λQ h=>by
     simp only [Q]
     exact ⟨bs,hk,by rw [z9];exact l1,h⟩) (by rw [z9];omega) (λi=>.int (ns.getD i 0)) (λi R hi _ h=>?_) (λR z=>by rw [z9] at z;omega) (λ_=>?_)
    ·rw [z9] at hi
     obtain ⟨e1,e2⟩:=Rj hi
     rw [e1] at h ⊢
     obtain ⟨x1,x2⟩:=wo _ (zr _ e2)
     simp only [Q,S_D]
     exact ⟨x1,by omega,_,TX.gZ U i hi,h⟩
    rw [z9,show (List.range os.length).map (λi=>D.int (ns.getD i 0))=ns.map D.int by
     have:=zV (List.map D.int) (M.range_getD ns)
     rw [List.map_map,l2,<-l1] at this
     exact this]
    simp only [Q]
    exact q
theorem S5 {n:Int} (h0:0<=n) (h:n<2 ^ 1100):n.natAbs.log2<1920:=by
 obtain ⟨m,rfl⟩:=yE h0
 have B:m<2 ^ 1100:=by exact_mod_cast h
 by_cases z:m=0
 ·subst z;decide
 ·exact zK ((Nat.log2_lt z).mpr B) (by decide)
theorem rT {n:Int} (h:n<=10 ^ 40):n<M.vh/\n<2 ^ 1100:=by
 have h1:(10:Int) ^ 40<M.vh:=by unfold M.vh;decide
 have h2:(10:Int) ^ 40<2 ^ 1100:=by decide
 omega
theorem Di {k:Nat} {ti:sE} {g:pQ} {z:mQ} {B:TQ} {Q:Rt->aG->Prop} {p:aG} (h:ti p λn item p1=>mU k (λ_ Q=>Q n item p1) g z B p1 Q):mU k ti g z B p Q:=h
def S_A:eE:=λas R=>∃n b:Int,as=[.d (.int b),.d (.lst [.int n])]/\2<=b/\b<=36/\0<=n/\n<=10 ^ 40/\R (.rd (.str (Txt.join TX.dw ((M.fg b n).map TX.tx)))) as
theorem aec (T:Zs K mg cs):Ok P w base 4 T.bF S_A:=by
 have U:=MK P w base T
 refine T.bF.F.gU adn (λas R h=>?_) (λcdv A outer s H E C as R z hr h=>?_)
 ·obtain ⟨_,_,rfl,_⟩:=h;rfl
 have hu:=hr.units
 obtain ⟨n,b,rfl,O,J,B,n1,q⟩:=h
 obtain ⟨n2,_⟩:=rT n1
 have I:=M.cT O B
 have fl:=M.Lj O B n2
 refine ⟨_,(sr (Ci z qs (a1 (aq (lJ (N:=["figure","base","numbers"]) (k:=1) (aV.of (show gr (aa s_A) ["base","numbers"] _ ["figure","base","numbers"] 1 from ⟨by rfl,by decide,by decide,by rfl,by decide,by decide,by decide,by decide⟩)) rfl (dD z (aq (aj z T.eU U hr.m (a2 (qx z (qv 1)) (qv 0))))) (λZ s H fp=>(dJ (i:=0) (by decide) (show List.Nodup (["figure","base","numbers"]:List Str) by decide) rfl (Or.inl rfl) (Or.inr rfl))) (λZ s H fp=>jT) (λZ s H fp=>(aH rfl T.bw (a1 (qv 0))))))))),?_⟩
 simp only [S]
 refine Di ?_
 simp only [Hh]
 refine ⟨B,n2,O,J,?_⟩
 simp only [Hh]
 have fr:∀i,i<(M.fg b n).length->0<=(M.fg b n).getD i 0/\(M.fg b n).getD i 0<10 ^ 50:=λi hi=>by
  have:=I.jD ((M.fg b n).getD i 0) (by rw [zj,zd hi];exact yd hi)
  exact ⟨this.1,Int.lt_of_lt_of_le this.2 (yz J (by decide))⟩
 refine comp_map (n:=((M.fg b n).map D.int).length) (item:=λi=>((M.fg b n).map D.int).getD i .non) (p1:=_) (λQ h=>h) (by rw [z9];omega) (λi=>.str (TX.tx ((M.fg b n).getD i 0))) (λi R hi h=>?_) ?_
 ·rw [z9] at hi
  rw [getD_ints hi] at h ⊢
  simp only [Hh]
  exact ⟨(TX.bA (fr i hi).1 (fr i hi).2).lg,h⟩
 rw [z9,Dh]
 simp only [Hh]
 exact ⟨vR (by decide) (λx Y=>⟨(I.jD x Y).1,Int.lt_of_lt_of_le (I.jD x Y).2 (yz J (by decide))⟩) (by omega),q⟩
def aaF:eE:=λas R=>∃n b:Int,as=[.d (.int b),.d (.lst [.int n])]/\2<=b/\b<=36/\0<=n/\n<=10 ^ 40/\R (.rd (.str (if M.bG b n=true then "yes" else "no"))) as
theorem aaG (T:Zs K mg cs):Ok P w base 5 T.cW aaF:=by
 have B:=Q6 P w base T
 refine T.cW.F.gU aag (λas R h=>?_) (λO A outer s H E C as R I D h=>?_)
 ·obtain ⟨_,_,rfl,_⟩:=h;rfl
 have Z:=D.units
 obtain ⟨n,b,rfl,Y,U,J,n1,q⟩:=h
 obtain ⟨n2,_⟩:=rT n1
 refine ⟨_,(sr (uM (fu (aq (aj I T.cR B D.m (a2 (qx I (qv 1)) (qv 0))))) qs qs)),?_⟩
 simp only [Hh]
 refine ⟨J,n2,Y,U,?_⟩
 simp only [Hh]
 refine Wq (λz=>?_) (λz=>?_)
 ·simp only [Hh]
  rw [zo z] at q;exact q
 ·simp only [Hh]
  rw [zi (by rw [z];decide)] at q;exact q
def S_O:eE:=λas R=>∃n b:Int,as=[.d (.int b),.d (.lst [.int n])]/\2<=b/\b<=36/\0<=n/\n<=10 ^ 40/\R (.rd (.str (TX.tx (M.the (M.AM b n))))) as
theorem aed (T:Zs K mg cs):Ok P w base 6 T.bR S_O:=by
 have B:=Xe P w base T
 refine T.bR.F.gU adp (λas R h=>?_) (λO A outer s H E C as R I D h=>?_)
 ·obtain ⟨_,_,rfl,_⟩:=h;rfl
 have Z:=D.units
 obtain ⟨n,b,rfl,Y,U,J,n1,q⟩:=h
 obtain ⟨n2,n3⟩:=rT n1
 refine ⟨_,(sr (aH rfl T.bw (a1 (aq (aj I T.i_ B D.m (a2 (qx I (qv 1)) (qv 0))))))),?_⟩
 simp only [Hh]
 refine ⟨J,n2,Y,U,λm z=>?_⟩
 simp only [Hh]
 refine ⟨S5 z.mp.1 (zR z.le n3),?_⟩
 simp only [Hh]
 rw [M.eH z λ_ h=>h.uniq z] at q;exact q
def S_M:eE:=λas R=>∃n b:Int,as=[.d (.int b),.d (.lst [.int n])]/\2<=b/\b<=36/\0<=n/\n<=10 ^ 40/\R (.rd (.str (TX.tx (M.the (M.AL b n))))) as
theorem S6 {b n m:Int} (B:2<=b) (D:b<=36) (h0:0<=n) (h:n<=10 ^ 40) (I:M.AL b n m):m<10 ^ 50:=by
 have h1:=I.bot _ (M.iU B (M.ln b n)) (by have:=M.gH B h0;omega)
 have e:(36:Int) * 10 ^ 40<10 ^ 50:=by decide
 by_cases z:1<=n
 ·have h2:=M.fD B z
  have J:b ^ (M.ln b n)=b ^ (M.ln b n - 1) * b:=by
   have:=M.dF B h0
   rw [<-zL,Nat.succ_eq_add_one,Nat.sub_add_cancel this]
  have p:=M.au (show 0<b by omega) (M.ln b n - 1)
  have O:b ^ (M.ln b n - 1) * b<=n * 36:=yO h2 D (by omega) h0
  rw [J] at h1
  omega
 ·have:n=0:=by omega
  subst this
  have:=I.bot 0 (M.dO (by decide) (by omega)) (by decide)
  omega
theorem aee (T:Zs K mg cs):Ok P w base 6 T.bT S_M:=by
 have B:=adO P w base T
 refine T.bT.F.gU adq (λas R h=>?_) (λY A outer s H E C as R J I h=>?_)
 ·obtain ⟨_,_,rfl,_⟩:=h;rfl
 have Z:=I.units
 obtain ⟨n,b,rfl,U,O,D,n1,q⟩:=h
 obtain ⟨n2,n3⟩:=rT n1
 refine ⟨_,(sr (aH rfl T.bw (a1 (aq (aj J T.lZ B I.m (a2 (qx J (qv 1)) (qv 0))))))),?_⟩
 simp only [Hh]
 refine ⟨D,n2,U,O,λm z=>?_⟩
 simp only [Hh]
 refine ⟨(TX.bA z.mp.1 (S6 U O D n1 z)).lg,?_⟩
 simp only [Hh]
 rw [M.eH z λ_ h=>h.uniq z] at q;exact q
def S_N:eE:=λas R=>∃n b:Int,as=[.d (.int b),.d (.lst [.int n])]/\2<=b/\b<=36/\0<=n/\n<=10 ^ 40/\R (.rd (.str (TX.tx (M.cnt b n)))) as
theorem M8 (b n:Int):0<=M.cnt b n:=by rw [<-M.m8];omega
theorem M9 {b n:Int} (B:2<=b) (D:b<=36) (h0:0<=n) (h:n<=10 ^ 40):0<=M.cnt b n/\M.cnt b n<10 ^ 24:=by
 obtain ⟨m,z⟩:=M.uf B n.toNat
 rw [show ((n.toNat:Nat):Int)=n by omega] at z
 have e:=M.lV B h0 z
 have:=M.Sg B D z.mp (yz z.le h)
 rw [e] at this
 exact ⟨M8 b n,this⟩
theorem aef (T:Zs K mg cs):Ok P w base 7 T.bU S_N:=by
 have z:=aav P w base T
 refine T.bU.F.gU adu (λas R h=>?_) (λU A outer s H E C as R I D h=>?_)
 ·obtain ⟨_,_,rfl,_⟩:=h;rfl
 have Z:=D.units
 obtain ⟨n,b,rfl,O,J,B,n1,q⟩:=h
 obtain ⟨n2,n3⟩:=rT n1
 obtain ⟨c0,Y⟩:=M9 O J B n1
 refine ⟨_,(sr (aH rfl T.bw (a1 (aq (aj I T.oX z D.m (a2 (qx I (qv 1)) (qv 0))))))),?_⟩
 simp only [Hh]
 refine ⟨B,n2,O,J,?_⟩
 simp only [Hh]
 refine ⟨(TX.bA c0 (yL Y (by decide))).lg,?_⟩
 simp only [Hh]
 exact q
def aaH:eE:=λas R=>∃n b:Int,as=[.d (.int b),.d (.lst [.int n])]/\2<=b/\b<=36/\0<=n/\n<=10 ^ 20/\R (.rd (.str (TX.tx (M.the λm=>M.Mp b m/\M.pl b m=n)))) as
theorem aaI (T:Zs K mg cs):Ok P w base 4 T.cX aaH:=by
 have B:=adR P w base T
 refine T.cX.F.gU aal (λas R h=>?_) (λZ A outer s H E C as R J D h=>?_)
 ·obtain ⟨_,_,rfl,_⟩:=h;rfl
 have hu:=D.units
 obtain ⟨n,b,rfl,O,b1,U,n1,q⟩:=h
 refine ⟨_,(sr (aH rfl T.bw (a1 (aq (aj J T.iD B D.m (a2 (qx J (qv 1)) (qv 0))))))),?_⟩
 simp only [Hh]
 refine ⟨U,by omega,O,b1,λm z I Y=>?_⟩
 simp only [Hh]
 refine ⟨S5 z.1 Y,?_⟩
 simp only [Hh]
 rw [M.eH ⟨z,I⟩ λ_ h=>M.CZ O h.1 z (h.2.trans I.symm)] at q;exact q
def S_P:eE:=λas R=>∃n b:Int,as=[.d (.int b),.d (.lst [.int n])]/\2<=b/\b<=36/\0<=n/\n<=10 ^ 40/\M.bG b n=true/\R (.rd (.str (TX.tx (M.pl b n)))) as
theorem aeg (T:Zs K mg cs):Ok P w base 6 T.bV S_P:=by
 have O:=aau P w base T
 refine T.bV.F.gU adv (λas R h=>?_) (λcdv A outer s H E C as R Y U h=>?_)
 ·obtain ⟨_,_,rfl,_⟩:=h;rfl
 have hu:=U.units
 obtain ⟨n,b,rfl,J,Z,z,n1,I,q⟩:=h
 obtain ⟨n2,n3⟩:=rT n1
 have B:=M.Sg J Z ⟨z,I⟩ n1
 have D:0<=M.pl b n:=by rw [M.lV J z (M.AM.self ⟨z,I⟩)];exact M8 b n
 refine ⟨_,(sr (aH rfl T.bw (a1 (aq (aj Y T.jz O U.m (a2 (qx Y (qv 1)) (qv 0))))))),?_⟩
 simp only [Hh]
 refine ⟨⟨z,I⟩,n2,J,Z,?_⟩
 simp only [Hh]
 refine ⟨(TX.bA D (yL B (by decide))).lg,?_⟩
 simp only [Hh]
 exact q
def S_V:eE:=λas R=>∃n b:Int,as=[.d (.int b),.d (.lst [.int n])]/\2<=b/\b<=36/\0<=n/\n<=10 ^ 40/\R (.rd (.str (wt (M.the (M.Fw b n))))) as
theorem M_ {b n:Int} {L:List Int} (z:2<=b) (h:n<=10 ^ 40) (f:M.Fw b n L):Wz L:=by
 have e:(10:Int) ^ 40<2 ^ 1100:=by decide
 have l:=f.len z 1100 (zR h e)
 exact ⟨λx B=>by have:=f.all z x B;exact ⟨this.1,by omega⟩,by omega⟩
theorem aeh (T:Zs K mg cs):Ok P w base 7 T.cM S_V:=by
 have I:=Ri P w base T
 have z:=aaD P w base T
 refine T.cM.F.gU ady (λas R h=>?_) (λU A outer s H E C as R D B h=>?_)
 ·obtain ⟨_,_,rfl,_⟩:=h;rfl
 have Z:=B.units
 obtain ⟨n,b,rfl,J,Y,O,n1,q⟩:=h
 obtain ⟨n2,n3⟩:=rT n1
 refine ⟨_,(aQ (cH (aj D T.eV I B.m (a1 (aq (aj D T.vP z B.m (a2 (qx D (qv 1)) (qv 0)))))))),?_⟩
 simp only [Hh]
 refine ⟨O,n2,J,Y,λL hL=>?_⟩
 simp only [Hh]
 rw [M.eH hL λ_ h=>h.uniq hL] at q;exact ⟨M_ J n1 hL,q⟩
def S_U:eE:=λas R=>∃n b:Int,as=[.d (.int b),.d (.lst [.int n])]/\2<=b/\b<=36/\0<=n/\n<=10 ^ 6/\R (.rd (.str (TX.tx ((M.tw b n).length:Int)))) as
theorem aei (T:Zs K mg cs):Ok P w base 7 T.cN S_U:=by
 have z:=ad2 P w base T
 refine T.cN.F.gU adA (λas R h=>?_) (λU A outer s H E C as R D B h=>?_)
 ·obtain ⟨_,_,rfl,_⟩:=h;rfl
 have Y:=B.units
 obtain ⟨n,b,rfl,J,I,O,n1,q⟩:=h
 refine ⟨_,(sr (aH rfl T.bw (a1 (aq (aj D T.iG z B.m (a2 (qx D (qv 1)) (qv 0))))))),?_⟩
 have l:(M.tw b n).length<=10 ^ 6:=yi (List.length_filter_le _ _) (by
  have h0:(0:Int)<=n / 2:=by omega
  have:=nJ J I h0 (by omega)
  omega)
 simp only [Hh]
 refine ⟨O,n1,J,I,?_⟩
 simp only [Hh]
 refine ⟨(TX.bA (by omega) (by omega)).lg,?_⟩
 simp only [Hh]
 exact q
theorem jA:∀{L:List Int},(∀x∈L,(1:Int)<=x)->∀x∈L,x<=L.sum/\0<=L.sum
 | [],_,x,n=>by cases n
 | y::r,h,x,n=>by
  have D:=h y zn
  rw [yX]
  have B:0<=r.sum:=by
   cases r with
   | nil=>simp
   | cons z r=>exact (jA (λx n=>h x (zr _ n)) z zn).2
  rcases zu.mp n with rfl|n
  ·omega
  ·have:=(jA (λx n=>h x (zr _ n)) x n).1
   omega
def S_H:eE:=λas R=>∃n b:Int,as=[.d (.int b),.d (.lst [.int n])]/\2<=b/\b<=36/\0<=n/\n<=10 ^ 6/\R (.rd (.str (wt (M.the (M.Gt b (M.nd b n) n))))) as
theorem S7 {b n:Int} {L:List Int} (I:2<=b) (B:0<=n) (n1:n<=10 ^ 6) (hL:M.Gt b (M.nd b n) n L):Wz L:=by
 have w:=hL.way
 have k:=M.CV I 20 B (zR n1 (by decide))
 refine ⟨λx z=>⟨(w.mem x z).1,?_⟩,by rw [w.len];omega⟩
 have:=jA (λy D=>(w.mem y D).1) x z
 rw [w.sum] at this
 omega
theorem aej (T:Zs K mg cs):Ok P w base 24 T.bJ S_H:=by
 have D:=Ri P w base T
 have I:=ad6 P w base T
 refine T.bJ.F.gU adC (λas R h=>?_) (λU A outer s H E C as R B z h=>?_)
 ·obtain ⟨_,_,rfl,_⟩:=h;rfl
 have Z:=z.units
 obtain ⟨n,b,rfl,O,Y,J,n1,q⟩:=h
 refine ⟨_,(aQ (cH (aj B T.eV D z.m (a1 (aq (aj B T.rP I z.m (a2 (qx B (qv 1)) (qv 0)))))))),?_⟩
 simp only [Hh]
 refine ⟨J,n1,O,Y,λL hL=>?_⟩
 simp only [Hh]
 rw [M.eH hL λ_ h=>h.uniq hL] at q
 exact ⟨S7 O J n1 hL,q⟩
def S_F:eE:=λas R=>∃(n b:Int) (k:Nat),as=[.d (.int b),.d (.lst [.int n,.int k])]/\2<=b/\b<=36/\0<=n/\n<=500/\k<=12/\R (.rd (.str (TX.tx (M.cg true (M.aX b n).reverse k n)))) as
theorem Rk (b:Int) {n:Int} (z:0<=n) (n1:n<=500):M.cnt b n<=500:=by
 have h:∀m:Nat,M.oV b m<=m:=λm=>by
  induction m with
  | zero=>exact yn _
  | succ m ih=>unfold M.oV;split<;>omega
 have:=h n.toNat
 unfold M.cnt
 omega
theorem Nb {b n:Int} {k:Nat} (b0:2<=b) (Z:b<=36) (I:0<=n) (n1:n<=500) (k1:k<=12):0<=M.cg true (M.aX b n).reverse k n/\M.cg true (M.aX b n).reverse k n<10 ^ 40:=by
 refine ⟨M.iW _ _ _,?_⟩
 have h1:=M.Su (M.aX b n).reverse k n
 rw [yT] at h1
 have B:=Rk b I n1
 rw [<-M.m8] at B
 have J:∀(x:Int) (k:Nat),0<=x->x<=500->0<=x ^ k/\x ^ k<=500 ^ k:=λx k z D=>by
  induction k with
  | zero=>simp
  | succ k ih=>
   rw [zL,zL]
   exact ⟨Int.mul_nonneg ih.1 z,yO ih.2 D z (by omega)⟩
 have Y:(500:Int) ^ k<=500 ^ 12:=M.bz (by decide) k1
 have U:(500:Int) ^ 12<10 ^ 40:=by decide
 have O:=(J _ k (by omega) B).2
 omega
theorem aek (T:Zs K mg cs):Ok P w base 6 T.cD S_F:=by
 have z:=aax P w base T
 refine T.cD.F.gU W9 (λas R h=>?_) (λU A outer s H E C as R I D h=>?_)
 ·obtain ⟨_,_,_,rfl,_⟩:=h;rfl
 have Z:=D.units
 obtain ⟨n,b,k,rfl,O,J,B,n1,k1,q⟩:=h
 obtain ⟨c0,Y⟩:=Nb O J B n1 k1
 refine ⟨_,(bf (jM (qv 1) (Cv (n:=2) I rfl (bx (aO (i:=2) W9.nd rfl lc) (bx (aO (i:=3) W9.nd rfl lc) iy))))
    (sr (aH rfl T.bw (a1 (aq (aj I T.fL z D.m (a3 (qv 2) (qv 0) (qv 3)))))))),?_⟩
 simp only [Hh]
 refine ⟨B,by omega,O,J,by omega,?_⟩
 simp only [Hh]
 refine ⟨(TX.bA c0 (yL Y (by decide))).lg,?_⟩
 simp only [Hh]
 exact q
def S_l:eE:=λas R=>∃(n b pl:Int) (k:Nat),as=[.d (.int b),.d (.lst [.int n,.int k,.int pl])]/\2<=b/\b<=36/\0<=n/\n<=500/\k<=12/\0<=pl/\pl<M.cg true (M.aX b n).reverse k n/\R (.rd (.str (wt (M.nj (M.aX b n).reverse k n pl)))) as
theorem ael (T:Zs K mg cs):Ok P w base 6 T.a_ S_l:=by
 have D:=Ri P w base T
 have I:=aay P w base T
 refine T.a_.F.gU Am (λas R h=>?_) (λZ A outer s H E C as R B z h=>?_)
 ·obtain ⟨_,_,_,_,rfl,_⟩:=h;rfl
 have hu:=z.units
 obtain ⟨n,b,pl,k,rfl,b0,b1,J,n1,k1,p0,U,q⟩:=h
 refine ⟨_,(bf (jM (qv 1) (Cv (n:=3) B rfl (bx (aO (i:=2) Am.nd rfl lc) (bx (aO (i:=3) Am.nd rfl lc) (bx (aO (i:=4) Am.nd rfl lc) iy)))))
    (aQ (cH (aj B T.eV D z.m (a1 (aq (aj B T.gR I z.m (cA (qv 2) (a3 (qv 0) (qv 3) (qv 4)))))))))),?_⟩
 simp only [Hh]
 refine ⟨J,by omega,b0,b1,by omega,p0,U,?_⟩
 simp only [Hh]
 obtain ⟨O,w2⟩:=M.C_ (M.aX b n).reverse k n pl
 exact ⟨⟨λx Y=>by have:=(M.gh J).mp (zY.mp (O x Y));omega,by omega⟩,q⟩
def X_p (cs:XA):V5:=λas z=>∃(n b pl:Int) (k:Nat),as=[.d (.int n),.d (.int b),.d (.int k),.d (.int pl)]/\0<=n/\n<=2000/\2<=b/\b<=36/\k<=2000/\0<=pl/\M.cg true (M.aX b n).reverse k n<=pl/\z=cs.jt
theorem aaJ (T:Zs K mg cs):OkX P w base 5 T.gR (X_p cs):=by
 have Aq:=jY P w base T
 have Z:=Q5 P w base T
 have G_c:=MP P w base T
 have Y:=Xg P w base T
 refine T.gR.F.okX nu (λas Cl h=>?_) (λcdv A outer s H E C as Cl XE B I h U lk lr=>?_)
 ·obtain ⟨_,_,_,_,rfl,_⟩:=h;exact ⟨rfl,W3 [_,_,_,_]⟩
 have hu:=I.units
 obtain ⟨n,b,pl,k,rfl,J,n1,b0,b1,k1,l0,l1,rfl⟩:=h
 subst U
 refine ⟨_,(Cq (aU (aW (λW ok=>(qO (aq (aj B T.aJ Aq I.m (a1 (qv 1))))))) (aU (aW (λW ok=>(bD (PW.pt (w_or (d7 (fu (aq (aj B T.eO Z I.m (a1 (qv 3)))))) (iK (sS (qv 3) qi)))) (aQ (Zq T.oW rfl (uH.add lr ok) (a1 qs))) aR))) (aU (aW (λW ok=>(aL (i:=4) nu.nd rfl lc (aq (aj B T.cC G_c I.m (a2 (qv 0) (qv 1))))))) (aU (tZ (i:=5) nu.nd rfl lc (lN B T.iZ Y I.m (λW ok=>(a3 (qv 4) (qv 0) (qv 2))))) (v_cut (aW (λW ok=>(bD (Gm (qv 3) (gD ok B (gD ok B (qv 5) (qv 2) (λ_ _=>rfl)) (qv 0) (λ_ _=>rfl))) (aQ (Zq T.oW rfl (uH.add lr ok) (a1 qs))) aR))))))))),?_⟩
 show sW _ _ _ _ _
 refine aD λO z=>?_
 simp only [Hg]
 refine ⟨b0,b1,z _ _ ?_⟩
 refine aD λO z=>?_
 simp only [R,S_t]
 rw [zi (by omega)]
 refine z _ _ ?_
 refine aD λO z=>?_
 simp only [R,X5]
 refine ⟨J,by omega,b0,b1,z _ _ ?_⟩
 refine aD λO z=>?_
 simp only [R,S_y]
 have bd:=Dg (b:=b) (n:=n) J
 refine ⟨M.aX b n,rfl,n.toNat,by omega,k,rfl,by omega,k1,λy hy=>?_,M.gJ b n,λW' x ms hM hT=>z _ _ ?_⟩
 ·have:=bd y hy
  omega
 have g:=hT.val k n.toNat (zC _) (zC _)
 rw [show ((n.toNat:Nat):Int)=n by omega] at g
 have rd:∃(bs:List Addr) (b':Addr) (r:List Int),W' x=some (.lst (bs.map V.ref))/\h_ (bs.map V.ref) (k:Int)=some (.ref b')/\W' b'=some (.lst (List.map V.int r))/\h_ (List.map V.int r) n=some (.int (M.cg true (M.aX b n).reverse k n)):=by
  obtain ⟨bs,hx,nx,D⟩:=hM
  have hb:=D.len
  have hl:=hT.p8.len
  obtain ⟨r,s1,y1⟩:=M.fH g
  obtain ⟨b',e1⟩:∃b',bs[k]? = some b':=⟨_,zd (by omega)⟩
  exact ⟨bs,b',r,hx,dM (by omega) (by rw [xA];exact e1),D.at_ _ _ _ e1 s1,iT J y1⟩
 obtain ⟨bs,b',r,r1,r2,r3,r4⟩:=rd
 show KH _ _ _ _
 unfold KH
 simp only [R,r1,r2,r3,r4]
 rw [zo l1];trivial
def X_l (cs:XA):V5:=λas z=>∃(n b pl:Int) (k:Nat),as=[.d (.int b),.d (.lst [.int n,.int k,.int pl])]/\0<=n/\n<=2000/\2<=b/\b<=36/\k<=2000/\0<=pl/\M.cg true (M.aX b n).reverse k n<=pl/\z=cs.jt
theorem aaK (T:Zs K mg cs):OkX P w base 6 T.a_ (X_l cs):=by
 have z:=aaJ P w base T
 have J:=Ri P w base T
 refine T.a_.F.okX Am (λas Cl h=>?_) (λY A outer s H E C as Cl XE I B h D lk lr=>?_)
 ·obtain ⟨_,_,_,_,rfl,_⟩:=h;exact ⟨rfl,W3 [_,_]⟩
 have hu:=B.units
 obtain ⟨n,b,pl,k,rfl,O,n1,b0,Z,k1,l0,U,rfl⟩:=h
 subst D
 refine ⟨_,(bf (jM (qv 1) (Cv (n:=3) I rfl (bx (aO (i:=2) Am.nd rfl lc) (bx (aO (i:=3) Am.nd rfl lc) (bx (aO (i:=4) Am.nd rfl lc) iy))))) (Zr (cH (aj I T.eV J B.m (a1 (aq (PX I T.gR z B.m lk (cA (qv 2) (a3 (qv 0) (qv 3) (qv 4)))))))))),?_⟩
 simp only [Hh]
 exact ⟨_,cs.jt,rfl,List.nodup_nil,⟨n,b,pl,k,rfl,O,n1,b0,Z,k1,l0,U,rfl⟩,rfl⟩
noncomputable def ans (b:Int) (f:Str) (ns:List Int):Str:=(List.lookup f [(("figures":Str),Txt.join TX.dw ((M.fg b (ns.getD 0 0)).map TX.tx)),("is",if M.bG b (ns.getD 0 0)=true then ("yes":Str) else "no"),("below",TX.tx (M.the (M.AM b (ns.getD 0 0)))),("above",TX.tx (M.the (M.AL b (ns.getD 0 0)))),("count",TX.tx (M.cnt b (ns.getD 0 0))),("at",TX.tx (M.the λm=>M.Mp b m/\M.pl b m=ns.getD 0 0)),("place",TX.tx (M.pl b (ns.getD 0 0))),("few",wt (M.the (M.Fw b (ns.getD 0 0)))),("two",TX.tx ((M.tw b (ns.getD 0 0)).length:Int)),("fewest",wt (M.the (M.Gt b (M.nd b (ns.getD 0 0)) (ns.getD 0 0)))),("ways",TX.tx (M.cg true (M.aX b (ns.getD 0 0)).reverse (ns.getD 1 0).toNat (ns.getD 0 0))),("way",wt (M.nj (M.aX b (ns.getD 0 0)).reverse (ns.getD 1 0).toNat (ns.getD 0 0) (ns.getD 2 0)))]).getD ""
theorem rW (b n:Int):ans b ("figures":Str) [n]=Txt.join TX.dw ((M.fg b n).map TX.tx):=by kernel_rfl
theorem S8 (b n:Int):ans b ("is":Str) [n]=if M.bG b n=true then ("yes":Str) else "no":=by kernel_rfl
theorem rY (b n:Int):ans b ("below":Str) [n]=TX.tx (M.the (M.AM b n)):=by kernel_rfl
theorem Aw (b n:Int):ans b ("above":Str) [n]=TX.tx (M.the (M.AL b n)):=by kernel_rfl
theorem Ax (b n:Int):ans b ("count":Str) [n]=TX.tx (M.cnt b n):=by kernel_rfl
theorem Nf (b n:Int):ans b ("at":Str) [n]=TX.tx (M.the λm=>M.Mp b m/\M.pl b m=n):=by kernel_rfl
theorem Ay (b n:Int):ans b ("place":Str) [n]=TX.tx (M.pl b n):=by kernel_rfl
theorem Dj (b n:Int):ans b ("few":Str) [n]=wt (M.the (M.Fw b n)):=by kernel_rfl
theorem Ng (b n:Int):ans b ("two":Str) [n]=TX.tx ((M.tw b n).length:Int):=by kernel_rfl
theorem oY (b n:Int):ans b ("fewest":Str) [n]=wt (M.the (M.Gt b (M.nd b n) n)):=by kernel_rfl
theorem Fi (b n:Int) (k:Nat):ans b ("ways":Str) [n,k]=TX.tx (M.cg true (M.aX b n).reverse k n):=by kernel_rfl
theorem Dl (b n pl:Int) (k:Nat):ans b ("way":Str) [n,k,pl]=wt (M.nj (M.aX b n).reverse k n pl):=by kernel_rfl
structure Good (b:Int) (f:Str) (ns:List Int):Prop where
 nb:f≠("base":Str)
 place:f=("place":Str)->M.bG b (ns.getD 0 0)=true
 way:f=("way":Str)->ns.getD 2 0<M.cg true (M.aX b (ns.getD 0 0)).reverse (ns.getD 1 0).toNat (ns.getD 0 0)
def Dk (cl:Addr) (H:Hp) (x:Addr) (b:Int):Prop:=(∃dx,H x=some (.ins cl dx [("base",.int b)]))/\2<=b/\b<=36
def AT (m:Nat) (t:Str):Prop:=t.cps.all (·<128)=true/\t.length<=m
def Az (cl:Addr):Bc:=λH as R=>∃(x:Addr) (b:Int) (w f:Str) (ns:List Int),as=[.d (.atom (.ref x)),.d (.str w)]/\Dk cl H x b/\AT 50000 w/\TX.rowOf w=some (f,ns)/\Good b f ns/\R (.rd (.str (ans b f ns))) as
inductive mq (T:Zs K mg cs):Addr->eE->Prop
 | m9:mq T T.bF.f S_A
 | is_:mq T T.cW.f aaF
 | vH:mq T T.bR.f S_O
 | vI:mq T T.bT.f S_M
 | vJ:mq T T.bU.f S_N
 | at_:mq T T.cX.f aaH
 | vK:mq T T.bV.f S_P
 | QF:mq T T.cM.f S_V
 | two_:mq T T.cN.f S_U
 | qb:mq T T.bJ.f S_H
 | Fe:mq T T.cD.f S_F
 | L_:mq T T.a_.f S_l
theorem aem {k:Nat} {A:Around} (T:Zs K mg cs) (n:bI k A) (z:24<=k) {f:Addr} {S:eE} (h:mq T f S):∃k fd ps,bO P w K mg base lB k f fd ps (Gv K S)/\bI k A/\Binds K fd ps []/\PySem.W.keepIn K (.ref f)=true:=by
 cases h
 ·exact ⟨_,_,_,aec _ _ _ T,n.mono (by omega),T.bF.b,T.bF.F.kp⟩
 ·exact ⟨_,_,_,aaG _ _ _ T,n.mono (by omega),T.cW.b,T.cW.F.kp⟩
 ·exact ⟨_,_,_,aed _ _ _ T,n.mono (by omega),T.bR.b,T.bR.F.kp⟩
 ·exact ⟨_,_,_,aee _ _ _ T,n.mono (by omega),T.bT.b,T.bT.F.kp⟩
 ·exact ⟨_,_,_,aef _ _ _ T,n.mono (by omega),T.bU.b,T.bU.F.kp⟩
 ·exact ⟨_,_,_,aaI _ _ _ T,n.mono (by omega),T.cX.b,T.cX.F.kp⟩
 ·exact ⟨_,_,_,aeg _ _ _ T,n.mono (by omega),T.bV.b,T.bV.F.kp⟩
 ·exact ⟨_,_,_,aeh _ _ _ T,n.mono (by omega),T.cM.b,T.cM.F.kp⟩
 ·exact ⟨_,_,_,aei _ _ _ T,n.mono (by omega),T.cN.b,T.cN.F.kp⟩
 ·exact ⟨_,_,_,aej _ _ _ T,n.mono (by omega),T.bJ.b,T.bJ.F.kp⟩
 ·exact ⟨_,_,_,aek _ _ _ T,n.mono (by omega),T.cD.b,T.cD.F.kp⟩
 ·exact ⟨_,_,_,ael _ _ _ T,n.mono (by omega),T.a_.b,T.a_.F.kp⟩
abbrev aaL (T:Zs K mg cs):List (Str × Addr):=[((Str.ofString "figures"),T.bF.f),((Str.ofString "is"),T.cW.f),((Str.ofString "below"),T.bR.f),((Str.ofString "above"),T.bT.f),((Str.ofString "count"),T.bU.f),((Str.ofString "at"),T.cX.f),((Str.ofString "place"),T.bV.f),((Str.ofString "few"),T.cM.f),((Str.ofString "two"),T.cN.f),((Str.ofString "fewest"),T.bJ.f),((Str.ofString "ways"),T.cD.f),((Str.ofString "way"),T.a_.f)]
theorem aaM {f:Str} (h:f≠("base":Str)):(f=Str.ofString "base")=False:=eq_false h
theorem rZ (b:Int):List.lookup (Str.ofString "base") [((Str.ofString "base"),V.int b)]=some (V.int b):=by simp
theorem mz (T:Zs K mg cs):bO P w K mg base lB 25 T.MF T.Ao ["self","words"] (VB K (Az T.cl)):=by
 have G_s:=Xn P w base T
 have Aq:=jY P w base T
 refine T.Xa.Pq gP (λH as R h=>?_) (λcdv A outer s H E C as R O G8 hbs Y h=>?_)
 ·obtain ⟨_,_,_,_,_,rfl,_⟩:=h;rfl
 have hu:=Y.units
 have hG:=λf S (h:mq T f S)=>aem P w base T Y (by decide) h
 obtain ⟨x,b,w,f,ns,rfl,⟨⟨dx,hx⟩,I,B⟩,⟨wa,wl⟩,U,Z,q⟩:=h
 have h0:C.bs=[]:=lR (ds:=[.atom (.ref x),.str w]) hbs
 subst G8
 have SX:=TX.Ma U
 have hnb:=aaM Z.nb
 refine ⟨_,(bf (jM (aq (aj O T.gQ G_s Y.m (a1 (qv 1)))) (qQ (n:=2) O rfl (bx (aO (i:=2) gP.nd rfl lc) (bx (aO (i:=3) gP.nd rfl lc) iy))))
    (bf (bD (jJ O hu (qv 2) qs) (bf (qO (aq (aj O T.aJ Aq Y.m (a1 (qx O (qv 3))))))
    (bf qP
    (sr qs))) aR)
    (bf (aL (i:=4) gP.nd rfl lc (K6 T.kA rfl T.mA (qv 2) (λ_ _=>rfl)))
    (aQ (cH (Qs O (qv 4) hG (a2 (KY h0 O (qv 0)) (qv 3)))))))),?_⟩
 refine ak λkk J=>?_
 simp only [R,S_s]
 refine ⟨wa,wl,f,ns,U,?_⟩
 simp only [Hg]
 refine J _ ?_
 refine ak λkk J=>?_
 simp only [R,hnb]
 refine J _ ?_
 refine ak λkk J=>?_
 suffices key:∃fa S,PyProof.Rows.KTD.datumAt f (aaL T)=some fa/\mq T fa S/\∀z:Rt->List Sl->Prop,z (.rd (.str (ans b f ns))) [.d (.int b),.d (.lst (ns.map D.int))]->S [.d (.int b),.d (.lst (ns.map D.int))] z by
  obtain ⟨fa,S,h1,h2,h3⟩:=key
  simp only [R,h1]
  refine J _ ?_
  simp only [Q,rZ]
  exact ⟨S,h2,_,_,_,hx,O▸T.cls,O▸T.na,_,rZ b,h3 _ q⟩
 cases SX with
 | Sx=>exact absurd rfl Z.nb
 | m9 n0 n1=>exact ⟨_,_,by kernel_rfl,.m9,λz h=>⟨_,_,rfl,I,B,n0,n1,rW ..▸h⟩⟩
 | is_ n0 n1=>exact ⟨_,_,by kernel_rfl,.is_,λz h=>⟨_,_,rfl,I,B,n0,n1,S8 ..▸h⟩⟩
 | vH n0 n1=>exact ⟨_,_,by kernel_rfl,.vH,λz h=>⟨_,_,rfl,I,B,n0,n1,rY ..▸h⟩⟩
 | vI n0 n1=>exact ⟨_,_,by kernel_rfl,.vI,λz h=>⟨_,_,rfl,I,B,n0,n1,Aw ..▸h⟩⟩
 | vJ n0 n1=>exact ⟨_,_,by kernel_rfl,.vJ,λz h=>⟨_,_,rfl,I,B,n0,n1,Ax ..▸h⟩⟩
 | at_ n0 n1=>exact ⟨_,_,by kernel_rfl,.at_,λz h=>⟨_,_,rfl,I,B,n0,n1,Nf ..▸h⟩⟩
 | vK n0 n1=>exact ⟨_,_,by kernel_rfl,.vK,λz h=>⟨_,_,rfl,I,B,n0,n1,Z.place rfl,Ay ..▸h⟩⟩
 | QF n0 n1=>exact ⟨_,_,by kernel_rfl,.QF,λz h=>⟨_,_,rfl,I,B,n0,n1,Dj ..▸h⟩⟩
 | two_ n0 n1=>exact ⟨_,_,by kernel_rfl,.two_,λz h=>⟨_,_,rfl,I,B,n0,n1,Ng ..▸h⟩⟩
 | qb n0 n1=>exact ⟨_,_,by kernel_rfl,.qb,λz h=>⟨_,_,rfl,I,B,n0,n1,oY ..▸h⟩⟩
 | Fe n0 n1 k1=>exact ⟨_,_,by kernel_rfl,.Fe,λz h=>⟨_,_,_,rfl,I,B,n0,n1,k1,Fi ..▸h⟩⟩
 | L_ n0 n1 k1 p0 p1=>exact ⟨_,_,by kernel_rfl,.L_,λz h=>⟨_,_,_,_,rfl,I,B,n0,n1,k1,p0,Z.way rfl,Dl ..▸h⟩⟩
inductive Bad (cs:XA) (b:Int):D->Addr->Prop
 | way {w:Str} {n pl:Int} {k:Nat}:AT 50000 w->TX.rowOf w=some (("way":Str),[n,k,pl])->M.cg true (M.aX b n).reverse k n<=pl->Bad cs b (.str w) cs.jt
def S9 (cs:XA) (cl:Addr):XHp:=λH as n=>∃(x:Addr) (d:D) (b:Int),as=[.d (.atom (.ref x)),.d d]/\Dk cl H x b/\Bad cs b d n
theorem Rm (T:Zs K mg cs):bO P w K mg base (nP P w) 25 T.MF T.Ao ["self","words"] (P0 K (S9 cs T.cl)):=by
 have Z:=Xn P w base T
 have Aq:=jY P w base T
 refine T.Xa.Zu gP (λH as Cl h=>?_) (λcdv A outer s H E C as Cl XE B U h0 I h O lk lr ln=>?_)
 ·obtain ⟨_,_,_,rfl,_⟩:=h;exact ⟨rfl,W3 [_,_]⟩
 have hu:=I.units
 have Y:∀f S,f=T.a_.f/\S=X_l cs->∃k fd ps,bO P w K mg base (nP P w) k f fd ps (Zo K S)/\bI k _/\Binds K fd ps []/\PySem.W.keepIn K (.ref f)=true:=λf S h=>by
  obtain ⟨rfl,rfl⟩:=h
  exact ⟨_,_,_,aaK _ _ _ T,I.mono (by decide),T.a_.b,T.a_.F.kp⟩
 obtain ⟨x,d,b,rfl,⟨⟨dx,hx⟩,b0,b1⟩,hb⟩:=h
 subst O U
 cases hb with
 | way h1 h2 h3=>
  have D:=TX.Ma h2
  have hd:PyProof.Rows.KTD.datumAt (Str.ofString "way") (aaL T)=some T.a_.f:=by kernel_rfl
  have J:(Str.ofString "way"=Str.ofString "base")=False:=eq_false (by decide)
  refine ⟨_,(bf (jM (aq (aj B T.gQ Z I.m (a1 (qv 1)))) (qQ (n:=2) B rfl (bx (aO (i:=2) gP.nd rfl lc) (bx (aO (i:=3) gP.nd rfl lc) iy))))
    (bf (bD (jJ B hu (qv 2) qs) (bf (qO (aq (aj B T.aJ Aq I.m (a1 (qx B (qv 3))))))
    (bf qP
    (sr qs))) aR)
    (bf (aL (i:=4) gP.nd rfl lc (K6 T.kA rfl T.mA (qv 2) (λ_ _=>rfl)))
    (aQ (cH (K7 B (qv 4) Y lk (a2 (KY h0 B (qv 0)) (qv 3)))))))),?_⟩
  refine ak λkk z=>?_
  simp only [R,S_s]
  refine ⟨h1.1,h1.2,_,_,h2,?_⟩
  simp only [Hg]
  refine z _ ?_
  refine ak λkk z=>?_
  simp only [R,J]
  refine z _ ?_
  refine ak λkk z=>?_
  simp only [R,hd]
  refine z _ ?_
  generalize hk:((_:Nat):Int)=k' at D
  cases D with
  | L_ n0 n1 k1 p0 p1=>
   simp only [Q]
   refine ⟨_,_,_,hx,B▸T.cls,B▸T.na,_,rZ b,?_⟩
   have e:=Int.ofNat_inj.mp hk
   subst e
   exact ⟨_,_,_,_,rfl,n0,by omega,b0,b1,by omega,p0,h3,rfl⟩
def Nh (cl:Addr):Ei:=λW ds R=>∃(x dx:Addr) (b n:Int) (w:Str),ds=[.atom (.ref x),.str w]/\W x=some (.ins cl dx [("base",.int b)])/\AT 50000 w/\TX.rowOf w=some (("base":Str),[n])/\2<=n/\n<=36/\R (.str "ok") (upd W x (.ins cl dx [("base",.int n)]))
theorem Rn (T:Zs K mg cs):bO P w K mg base lB 25 T.MF T.Ao ["self","words"] (Hf K (Nh T.cl)):=by
 have J:=Xn P w base T
 have O:=jY P w base T
 refine T.Xa.XX gP (λW ds R h=>?_) (λcdv A outer s H E C W ds R B I h=>?_)
 ·obtain ⟨_,_,_,_,_,rfl,_⟩:=h;rfl
 have hu:=I.units
 obtain ⟨x,dx,b,n,w,rfl,hx,⟨Y,U⟩,D,Z,n1,q⟩:=h
 refine ⟨_,(aU (aW (λW ok=>(jM (aq (aj B T.gQ J I.m (a1 (qv 1)))) (qQ (n:=2) B rfl (bx (aO (i:=2) gP.nd rfl lc) (bx (aO (i:=3) gP.nd rfl lc) iy)))))) (v_cut (ac3 (λW ok=>(jJ B hu (qv 2) qs)) (aU (aW (λW ok=>(qO (aq (aj B T.aJ O I.m (a1 (qx B (qv 3))))))))
    (aU (R_ B (λW ok=>(qv 0)) (λW ok=>(qx B (qv 3))))
    (d8 (aW (λW ok=>(cH (qM qs))))))) Zy))),?_⟩
 simp only [Hh]
 show Exists _
 refine ⟨w,_,_,rfl,Y,U,D,?_⟩
 simp only [Hh]
 refine ac5 (λ_=>?_) (λz=>absurd rfl z)
 simp only [Hh]
 refine ⟨Z,n1,?_⟩
 simp only [Hh]
 have ep:iJ (Str.ofString "base") (V.int n) [((Str.ofString "base"),V.int b)]=[((Str.ofString "base"),V.int n)]:=by unfold iJ;simp
 refine ⟨_,_,_,_,_,rfl,rfl,hx,B▸T.cls,B▸T.na,by simp,?_⟩
 rw [ep]
 simp only [Hh]
 exact q
def Fj (cl:Addr):Ei:=λW ds R=>∃x dx:Addr,ds=[.atom (.ref x)]/\W x=some (.ins cl dx [])/\R .non (upd W x (.ins cl dx [("base",.int 10)]))
theorem Ro (T:Zs K mg cs):bO P w K mg base lB 1 T.Xb T.MJ ["self"] (Hf K (Fj T.cl)):=by
 obtain ⟨n,jr⟩:=T.jr
 refine T.adK.XX aao (λW ds R h=>?_) (λI A outer s H E C W ds R z D h=>?_)
 ·obtain ⟨_,_,rfl,_⟩:=h;rfl
 have J:=D.units
 obtain ⟨x,dx,rfl,B,q⟩:=h
 refine ⟨_,(d8 (R_ z (λW ok=>(qv 0)) (λW ok=>(jc (gV (v:=.int 10) rfl jr ⟨_,rfl⟩) (λ_=>.int _))))),?_⟩
 simp only [Q]
 exact ⟨_,_,_,B,z▸T.cls,z▸T.na,by simp,q⟩
def jZ (m:Int) (h:List D):Prop:=∃a f k:Int,h=[.int a,.int f,.int k]/\0<=k/\k<=m
theorem jZ.mono {m n:Int} {h:List D} (d:jZ m h) (l:m<=n):jZ n h:=by
 obtain ⟨a,f,k,e,h1,h2⟩:=d
 exact ⟨a,f,k,e,h1,by omega⟩
def Ni:eE:=λas R=>∃(h:List D) (m n:Int),as=[.bor h,.d (.int n)]/\jZ m h/\m<=10 ^ 6/\0<n/\n<10 ^ 50/\∀(g:Int) h',0<=g->g<n->jZ (m+1) h'->R (.rd (.int g)) [.bor h',.d (.int n)]
theorem Xo (T:Zs K mg cs):Ok P w base 1 T.bC Ni:=by
 refine T.bC.F.gU Mq (λas R h=>?_) (λY A outer s H E C as R D U h=>?_)
 ·obtain ⟨_,_,_,rfl,_⟩:=h;rfl
 have O:=U.units
 obtain ⟨h,m,n,rfl,⟨a,f,k,rfl,k0,k1⟩,Z,J,n1,q⟩:=h
 refine ⟨_,(bf (bD (jJ D O (qx D (qv 0)) qi) (bf (aL (i:=2) Mq.nd rfl lc (qJ (qx D (qv 0)) (qv 1)))
    (bf (JG (i:=0) (ji (qx D (qv 0)) (qv 1)) (pv 0) qi)
    (sr (qv 2)))) aR)
    (bf (JG (i:=0) (cG (qx D (qv 0)) qi) (pv 0) qi)
    (bf (aL (i:=3) Mq.nd rfl lc (jH (qJ (qx D (qv 0)) qi) (cG (jH (qx D (qv 0)) (qx D (qv 0))) qi)))
    (bf (aL (i:=3) Mq.nd rfl lc (qJ (cG (cG (qv 3) (qx D (qv 0))) qi) qi))
    (bf (aL (i:=3) Mq.nd rfl lc (qJ (jH (qv 3) (qv 3)) qi))
    (sr (qJ (ji (qJ (jH (qv 3) qi) qi) qi) (qv 1)))))))),?_⟩
 refine ak λI B=>?_
 simp only [Hg]
 refine mL (λc=>?_) (λc=>B _ ?_)
 ·refine ak λI B=>?_
  simp only [R]
  refine ⟨J,B _ ?_⟩
  refine ak λI B=>?_
  simp only [R]
  refine ⟨J,.inr (xu (TX.bA (by omega) n1).lg (by decide)),0,by unfold wL;simp,B _ ?_⟩
  simp only [Hh]
  exact q _ _ (yR _ (by omega)) (yC _ J) ⟨_,_,_,rfl,k0,by omega⟩
 refine ak λI B=>?_
 simp only [R]
 refine ⟨2,by unfold wL;simp,B _ ?_⟩
 refine ak λI B=>?_
 simp only [R]
 have e0:=yR a (show (2147483647:Int)≠0 by decide)
 have e1:=yC a (show (0:Int)<2147483647 by decide)
 generalize a % 2147483647=x at *
 refine ⟨.inl ⟨by omega,by omega⟩,.inl ⟨by omega,by omega⟩,B _ ?_⟩
 refine ak λI B=>?_
 simp only [R]
 refine B _ ?_
 have f0:=yR (x * ((k+1) * (k+1)+48271)+(k+1)+7) (show (2147483629:Int)≠0 by decide)
 have f1:=yC (x * ((k+1) * (k+1)+48271)+(k+1)+7) (show (0:Int)<2147483629 by decide)
 generalize (x * ((k+1) * (k+1)+48271)+(k+1)+7) % 2147483629=y at *
 refine ak λI B=>?_
 simp only [R]
 refine ⟨.inl ⟨by omega,by omega⟩,B _ ?_⟩
 have g0:=yR (y * y) (show (2147483587:Int)≠0 by decide)
 have g1:=yC (y * y) (show (0:Int)<2147483587 by decide)
 generalize (y * y) % 2147483587=z at *
 simp only [Q]
 refine ⟨J,?_⟩
 exact q _ _ (yR _ (by omega)) (yC _ J) ⟨_,_,_,rfl,by omega,by omega⟩
def S_Y:eE:=λas R=>∃c k:Int,as=[.d (.int c),.d (.int k)]/\0<=k/\∀h,jZ k h->R (.ro h) as
theorem aen (T:Zs K mg cs):Ok P w base 1 T.lY S_Y:=by
 refine T.lY.F.gU adb (λas R h=>?_) (λz A outer s H E C as R D n h=>?_)
 ·obtain ⟨_,_,rfl,_⟩:=h;rfl
 have B:=n.units
 obtain ⟨c,k,rfl,k0,q⟩:=h
 refine ⟨_,(bf (bD (Gm (qv 0) (DW qi qi)) (aQ (cH (dG (a3 (bQ (qv 0) (DW qi qi)) qi (qv 1))))) aR)
    (aQ (cH (dG (a3 (qv 0) qi (qv 1)))))),?_⟩;simp only [Q,and_assoc]
 refine mL (λc=>?_) (λc=>?_)
 ·exact q _ ⟨_,_,_,rfl,k0,yn _⟩
 ·exact q _ ⟨_,_,_,rfl,k0,yn _⟩
theorem Xp:∀k:Nat,k<40->(MulOk (Str.ofString "0") (k:Int)/\(Str.ofString "1").length+(Txt.mul (Str.ofString "0") (k:Int)).length<=100000)/\intText? (Str.ofString "1"++Txt.mul (Str.ofString "0") (k:Int))=some (10 ^ k)/\(Str.ofString "1"++Txt.mul (Str.ofString "0") (k:Int)).length<=640:=by unfold MulOk;decide
theorem Rp:∀k:Nat,k<40->MulOk (Str.ofString "9") ((k:Int)+1)/\intText? (Txt.mul (Str.ofString "9") ((k:Int)+1))=some (10 ^ (k+1) - 1)/\(Txt.mul (Str.ofString "9") ((k:Int)+1)).length<=640:=by unfold MulOk;decide
theorem pow10 {a b:Nat} (h:a<=b):(10:Int) ^ a<=10 ^ b:=M.bz (by decide) h
def S_v:eE:=λas R=>∃(h:List D) (m:Int) (z:Nat),as=[.bor h,.d (.int (z:Int))]/\jZ m h/\m<=10 ^ 5/\1<=z/\z<=40/\∀(g:Int) h',0<=g->g<=10 ^ z->jZ (m+100) h'->R (.rd (.int g)) [.bor h',.d (.int (z:Int))]
theorem aeo (T:Zs K mg cs):Ok P w base 2 T.ju S_v:=by
 have O:=Xo P w base T
 refine T.ju.F.gU GZ (λas R h=>?_) (λcdv A outer s H E C as R U Y h=>?_)
 ·obtain ⟨_,_,_,rfl,_⟩:=h;rfl
 have hu:=Y.units
 obtain ⟨h,m,z,rfl,hd,m6,z1,z2,q⟩:=h
 refine ⟨_,(bf (aL (i:=2) GZ.nd rfl lc (cG qi (aq (aj U T.bC O Y.m (a2 (qv 0) (qv 1))))))
    (bf (aL (i:=3) GZ.nd rfl lc (aq (aj U T.bC O Y.m (a2 (qv 0) qi))))
    (bf (bD (jJ U hu (qv 3) qi) (sr (cG (gf rfl T.iY (a1 (aZ qs (JV qs (bQ (qv 2) qi))))) (aq (aj U T.bC O Y.m (a2 (qv 0) qi))))) aR)
    (bf (bD (jJ U hu (qv 3) qi) (sr (bQ (gf rfl T.iY (a1 (JV qs (qv 2)))) (aq (aj U T.bC O Y.m (a2 (qv 0) qi))))) aR)
    (bf (aL (i:=4) GZ.nd rfl lc qi)
    (bf (jO zO rfl (jN rfl T.e_ (a1 (qv 2))) (aO (i:=5) GZ.nd rfl lc) (aQ (aL (i:=4) GZ.nd rfl lc (cG (jH qi (qv 4)) (Pg U (aq (dG (a3 (aq (aj U T.bC O Y.m (a2 (qv 0) qi))) qi qi))) (jH (BV rfl T.iY (a1 (sU U hu (aq (aj U T.bC O Y.m (a2 (qv 0) qi))) qi))) (cG qi (qJ (qv 3) qi))) (λ_ _=>rfl))))))
    (sr (qv 4)))))))),?_⟩
 refine ak λkk B=>?_
 simp only [R,Ni]
 refine ⟨m,hd,by omega,by omega,by omega,λl0 h1 l00 l01 hd1=>B _ ?_⟩
 obtain ⟨l,rfl⟩:=yE l00
 have p1:=pow10 (show l+1<=z by omega)
 rw [zL] at p1
 have p0:=M.au (show (0:Int)<10 by decide) l
 refine ak λkk B=>?_
 simp only [R,Ni]
 refine ⟨_,hd1,by omega,λw h2 w0 w1 Z=>B _ ?_⟩
 refine ak λkk B=>?_
 simp only [R,Ni]
 refine mL (λc=>?_) (λc=>B _ ?_)
 ·obtain ⟨⟨a1,a2⟩,a3,a4⟩:=Xp l (by omega)
  rw [show (1:Int)+(l:Int) - 1=(l:Int) by omega]
  refine ⟨a1,a2,_,a3,a4,_,Z,by omega,λg h3 g0 g1 J=>?_⟩
  exact q _ _ (by omega) (by omega) (J.mono (by omega))
 refine ak λkk B=>?_
 simp only [R,Ni]
 refine mL (λc=>?_) (λc=>B _ ?_)
 ·obtain ⟨a1,a3,a4⟩:=Rp l (by omega)
  rw [show (1:Int)+(l:Int)=(l:Int)+1 by omega]
  rw [zL] at a3
  refine ⟨a1,_,a3,a4,_,Z,by omega,λg h3 g0 g1 J=>?_⟩
  exact q _ _ (by omega) (by omega) (J.mono (by omega))
 refine ak λkk B=>?_
 simp only [R]
 refine B _ ?_
 obtain ⟨I,hI⟩:∃I:Nat->aG->Prop,I=λ(i:Nat) p=>∃(h3:List D) (g:Int) (w5:Option D),jZ (m+2+2 * (i:Int)) h3/\0<=g/\g<10 ^ i/\p=[some (.bor h3),some (.d (.int (z:Int))),some (.d (.int (1+(l:Int)))),some (.d (.int w)),some (.d (.int g)),Option.map Sl.d w5]:=⟨_,rfl⟩
 refine cj (mV (n:=l+1) (item:=λi=>.int (i:Int)) (p1:=_) (λQ h=>by
  simp only [Q]
  rw [show (1+(l:Int)).toNat=l+1 by omega]
  exact ⟨by omega,by omega,h⟩) I (by rw [hI];exact ⟨h2,0,none,Z.mono (by omega),by decide,by decide,rfl⟩) ?_ ?_)
 ·intro i p hi hp
  rw [hI] at hp
  obtain ⟨h3,g,w5,J,g0,g1,rfl⟩:=hp
  simp only [R,Ni]
  have e0:=yR w (show (2:Int)≠0 by decide)
  have e1:=yC w (show (0:Int)<2 by decide)
  refine ⟨_,J,by omega,λx h4 x0 x1 hd4=>⟨_,hd4,by omega,λy h5 _ _ hd5=>⟨.inr (by omega),?_⟩⟩⟩
  obtain ⟨v,hv,v0,v1⟩:∃v:Int,h_ [D.int x,D.int 9,D.int 0] ((if y=0 then 1 else 0) * (1+w % 2))=some (.int v)/\0<=v/\v<=9:=by
   by_cases c:y=0
   ·rw [zo c,xf]
    by_cases o:w % 2=0
    ·rw [o];exact ⟨9,rfl,by decide,by decide⟩
    ·rw [show w % 2=1 by omega];exact ⟨0,rfl,by decide,by decide⟩
   ·rw [zi c,Int.zero_mul];exact ⟨x,rfl,x0,by omega⟩
  refine ⟨_,hv,v,rfl,?_⟩
  rw [hI]
  exact ⟨h5,_,some _,hd5.mono (by omega),by omega,by rw [zL];omega,rfl⟩
 ·intro p hp
  rw [hI] at hp
  obtain ⟨h3,g,w5,J,g0,g1,rfl⟩:=hp
  simp only [Hh]
  rw [zL] at g1
  exact q _ _ g0 (by omega) (J.mono (by omega))
theorem Nj {ns:List Int} (h:Wz ns) (ne:ns≠[]):∀n∈ns,TX.Nz n:=λn z=>TX.bA (by have:=(h.jD n z).1;omega) (h.jD n z).2
theorem A_ {ns:List Int} (h:Wz ns) (ne:ns≠[]):Txt.split (wt ns) TX.sep=ns.map TX.tx:=by
 unfold wt
 rw [zi ne,show Txt.join TX.sep (ns.map TX.tx)=Str.join TX.sep (ns.map TX.tx) from xk _ _]
 refine TX.Fd (sr:=[43,32]) (by decide) (by decide) (by simpa using ne) λw B=>?_
 obtain ⟨n,D,rfl⟩:=zZ.mp B
 intro z
 have:=(Nj h ne n D).dig 32 z
 omega
theorem aaN {ns:List Int} (h:Wz ns) (ne:ns≠[]):(wt ns=("0":Str))=False:=eq_false λz=>by
 have s:=A_ h ne
 rw [z,show Txt.split ("0":Str) TX.sep=[TX.tx 0] by decide] at s
 obtain ⟨n,r,rfl⟩:=List.exists_cons_of_ne_nil ne
 rw [yq] at s
 injection s with s _
 have a:=(Nj h ne n zn).rd
 rw [<-s,(TX.bA (n:=0) (by decide) (by decide)).rd] at a
 injection a with a
 have:=(h.jD n zn).1
 omega
theorem Nk:∀{ns:List Int},(∀n∈ns,TX.Nz n)->(Str.join TX.sep (ns.map TX.tx)).length<=53 * ns.length
 | [],_=>by decide
 | [n],h=>by
  have:=(h n zn).len
  show (TX.tx n).length<=53 * 1
  omega
 | n::m::r,h=>by
  have a:=(h n zn).len
  have b:=Nk (ns:=m::r) λx z=>h x (zr _ z)
  have e:=zV List.length (TX.gM TX.sep (TX.tx n) (TX.tx m) (r.map TX.tx))
  rw [zt,zt,TX.bN,TX.bN,TX.bN,TX.bN,show TX.sep.length=3 by decide] at e
  simp only [yq,zJ] at b e ⊢
  omega
theorem Xq {ns:List Int} (h:Wz ns) (ne:ns≠[]):(wt ns).length<=53 * ns.length:=by
 unfold wt
 rw [zi ne,show Txt.join TX.sep (ns.map TX.tx)=Str.join TX.sep (ns.map TX.tx) from xk _ _]
 exact Nk (Nj h ne)
def S_z:eE:=λas R=>∃ns:List Int,as=[.d (.str (wt ns))]/\Wz ns/\ns.length<=1200/\R (.rd (.lst (ns.map D.int))) as
theorem aaO (T:Zs K mg cs):Ok P w base 1 T.dW S_z:=by
 refine T.dW.F.gU adI (λas R h=>?_) (λcdv A outer s H E C as R I hr h=>?_)
 ·obtain ⟨_,rfl,_⟩:=h;rfl
 have hu:=hr.units
 obtain ⟨ns,rfl,B,few,q⟩:=h
 refine ⟨_,(sr (uM (jJ I hu (qv 0) qs) (aq (dG pq)) (aq (lJ (N:=["word","text"]) (k:=1) (aV.of (show gr (aa s_z) ["text"] _ ["word","text"] 1 from ⟨by rfl,by decide,by decide,by rfl,by decide,by decide,by decide,by decide⟩)) rfl (dD I (aq (uV I (qv 0) (a1 qs)))) (λZ s H fp=>(dJ (i:=0) (by decide) (show List.Nodup (["word","text"]:List Str) by decide) rfl (Or.inl rfl) (Or.inr rfl))) (λZ s H fp=>jT) (λZ s H fp=>(gf rfl T.iY (a1 (qv 0)))))))),?_⟩
 by_cases ne:ns=[]
 ·subst ne
  have e:wt []=("0":Str):=by unfold wt;rw [zo rfl]
  rw [e] at q ⊢
  simp only [R]
  exact q
 have U:=aaN B ne
 have O:=A_ B ne
 simp only [R,U]
 have z:((ns.map TX.tx).map D.str).length=ns.length:=by rw [z9,z9]
 have wl:=Xq B ne
 have sp:Str.ofString " + "=TX.sep:=rfl
 refine comp_map (n:=((ns.map TX.tx).map D.str).length) (item:=λi=>((ns.map TX.tx).map D.str).getD i .non) (p1:=_) (λQ h=>by
  simp only [Hh]
  rw [sp,O]
  refine ⟨by omega,by rw [z9];omega,?_⟩
  simp only [Hh]
  exact h) (by rw [z];omega) (λi=>.int (ns.getD i 0)) (λi R hi h=>?_) ?_
 ·rw [z] at hi
  have Y:((ns.map TX.tx).map D.str).getD i .non=.str (TX.tx (ns.getD i 0)):=by
   rw [zj,zP,zP,zd hi,zj,zd hi];rfl
  rw [Y] at h ⊢
  have J:=B.at hi
  have ln:=J.len
  simp only [Hh]
  exact ⟨_,_,_,rfl,rfl,J.rd,by omega,h⟩
 rw [z,show (List.range ns.length).map (λi=>D.int (ns.getD i 0))=ns.map D.int by
  have:=zV (List.map D.int) (M.range_getD ns)
  rw [List.map_map] at this
  exact this]
 simp only [Hh]
 exact q
theorem la {a b:Str} {m k:Nat} (h:a.length<=m) (g:b.length<=k):(a++b).length<=m+k:=by
 have e:=zV List.length (TX.fJ a b)
 rw [TX.bN,zt,TX.bN,TX.bN] at e
 omega
theorem lb {a b:Str} {m k:Nat} (h:a.length<=m) (g:b.length<=k) (l:m+k<=100000):a.length+b.length<=100000:=by omega
theorem aaP {ti:sE} {g:pQ} {z:iu} {E:gY} {p:aG} (h:ti p λn item p1=>JH (λ_ Q=>Q n item p1) g z E p1):JH ti g z E p:=h
theorem Rq {d:D} (o:oG d) {A B:Prop} (h:B):if (!(oH d d))=true then A else B:=by rw [j8 o];exact h
abbrev dL (ns:List Int):Option Sl:=some (.d (.lst (ns.map D.int)))
theorem Rr {d:D} {A B:Prop} (h:A):if kW d d=true then A else B:=by rw [gB];exact h
theorem jB {d:D} {A B:Prop} (h:B):if (!(kW d d))=true then A else B:=by rw [gB];exact h
theorem aaQ {c:Prop} {_:Decidable c} {A B:Prop} (n:c->B) (h0:¬c->A):if (!decide c)=true then A else B:=by
 by_cases z:c
 ·rw [zW z];exact n z
 ·rw [zQ z];exact h0 z
abbrev dI (n:Int):Option Sl:=some (.d (.int n))
abbrev dR (x:Addr):Option Sl:=some (.d (.atom (.ref x)))
def atB (m:Nat) (t:Str):Bool:=t.cps.all (·<128) && decide (t.length<=m)
theorem AT.ofB {m:Nat} {t:Str} (h:atB m t=true):AT m t:=by
 unfold atB at h
 rw [yx,yw] at h
 exact h
theorem AT.mono {m n:Nat} {t:Str} (h:AT m t) (l:m<=n):AT n t:=⟨h.1,yi h.2 l⟩
theorem AT.mem {m:Nat} {t:Str} (h:AT m t):∀c∈t.cps.toList,c<128:=λc n=>by
 have:=h.1
 rw [<-xq,yF] at this
 exact xm (this c n)
theorem AT.of {m:Nat} {t:Str} (h:∀c∈t.cps.toList,c<128) (l:t.length<=m):AT m t:=by
 refine ⟨?_,l⟩
 rw [<-xq,yF]
 exact λc n=>zW (h c n)
theorem AT.cat {m n:Nat} {t u:Str} (h:AT m t) (g:AT n u):AT (m+n) (t++u):=by
 have e:=TX.fJ t u
 refine .of (λc z=>?_) ?_
 ·rw [e] at z
  rcases zT.mp z with z|z
  ·exact h.mem c z
  ·exact g.mem c z
 ·have:=zV List.length e
  rw [TX.bN,zt,TX.bN,TX.bN] at this
  have:=h.2
  have:=g.2
  omega
theorem Ru {f x:Str} {v bs:List Int} {r:List (Str × List Int)} (h:List.lookup f ((x,v)::r)=some bs):(f=x/\v=bs)\/List.lookup f r=some bs:=by
 rw [y9] at h
 by_cases z:f=x
 ·subst z;simp at h;exact .inl ⟨rfl,h⟩
 ·have:(f == x)=false:=by simpa using z
  rw [this] at h;exact .inr h
def okF (f:Str):Bool:=(f.cps.toList.all λc=>decide (c<128) && decide (c≠32)) && decide (f.length<=10)
theorem aaR {f:Str} {bs:List Int} (h:TX.BT.lookup f=some bs):okF f=true:=by
 have:∀l:List (Str × List Int),(l.all λp=>okF p.1)=true->List.lookup f l=some bs->okF f=true:=λl=>by
  induction l with
  | nil=>intro _ h;cases h
  | cons p r ih=>
   intro a h
   obtain ⟨x,v⟩:=p
   rw [List.all_cons,yx] at a
   rcases Ru h with ⟨rfl,_⟩|h
   ·exact a.1
   ·exact ih a.2 h
 exact this _ (by decide) h
def fits:List Int->List Int->Prop
 | [],[]=>True
 | n::ns,b::bs=>(0<=n/\n<=b/\b<=10 ^ 40)/\fits ns bs
 | _,_=>False
theorem uh:∀{ns bs:List Int},fits ns bs->TX.nums (ns.map TX.tx) bs=some ns/\∀n∈ns,0<=n/\n<10 ^ 50
 | [],[],_=>⟨rfl,λ_ h=>absurd h xt⟩
 | n::ns,b::bs,⟨⟨h0,h1,h2⟩,h⟩=>by
  obtain ⟨e,g⟩:=uh h
  refine ⟨?_,λm z=>?_⟩
  ·rw [yq,TX.nums,TX.WN h0 (by omega),zo h1,e];rfl
  ·rcases zu.mp z with rfl|z
   ·exact ⟨h0,by omega⟩
   ·exact g m z
theorem S_ {n:Int} (h0:0<=n) (D:n<10 ^ 50):AT 50 (TX.tx n):=by
 have z:=TX.bA h0 D
 exact .of (λc B=>by have:=z.dig c B;omega) z.len
theorem vU:∀(ns:List Int),(∀n∈ns,0<=n/\n<10 ^ 50)->AT (51 * ns.length) (Str.join TX.dw (ns.map TX.tx))
 | [],_=>.ofB (by decide)
 | [n],h=>(S_ (h n zn).1 (h n zn).2).mono (by show 50<=51 * 1;decide)
 | n::m::r,h=>by
  have a:=S_ (h n zn).1 (h n zn).2
  have b:=vU (m::r) λx z=>h x (zr _ z)
  have s:AT 1 TX.dw:=.ofB (by decide)
  have e:Str.join TX.dw ((n::m::r).map TX.tx)=TX.tx n++TX.dw++Str.join TX.dw ((m::r).map TX.tx):=by
   refine TX.jV ?_
   rw [yq,yq,TX.gM,TX.fJ,TX.fJ,yt]
  rw [e]
  exact ((a.cat s).cat b).mono (by simp only [zJ];omega)
theorem nM {f:Str} {bs ns:List Int} (O:TX.BT.lookup f=some bs) (hf:fits ns bs) (U:ns≠[]) (n3:ns.length<=3):TX.rowOf (Str.join TX.dw (f::ns.map TX.tx))=some (f,ns)/\AT 50000 (Str.join TX.dw (f::ns.map TX.tx)):=by
 have ok:=aaR O
 unfold okF at ok
 rw [yx,yF,yw] at ok
 have B:∀c∈f.cps.toList,c<128/\c≠32:=λc J=>by
  have:=ok.1 c J
  rw [yx,yw,yw] at this
  exact this
 obtain ⟨Z,I⟩:=uh hf
 have Y:=vU ns I
 have e:f++Str.ofString " "++Str.join TX.dw (ns.map TX.tx)=Str.join TX.dw (f::ns.map TX.tx):=by
  obtain ⟨n,r,rfl⟩:∃n r,ns=n::r:=by
   cases ns with
   | nil=>exact absurd rfl U
   | cons n r=>exact ⟨n,r,rfl⟩
  refine TX.jV ?_
  rw [yq,TX.gM,TX.fJ,TX.fJ,yt];rfl
 refine ⟨?_,e▸(((AT.of (m:=10) (λc J=>(B c J).1) ok.2).cat (AT.ofB (m:=1) (t:=Str.ofString " ") (by decide))).cat Y).mono (by omega)⟩
 unfold TX.rowOf
 rw [TX.split1 (by simp) (λw D=>by
  rcases zu.mp D with rfl|D
  ·exact λz=>(B 32 z).2 rfl
  ·obtain ⟨n,h,rfl⟩:=zZ.mp D
   intro z
   have:=(TX.bA (I n h).1 (I n h).2).dig 32 z
   omega)]
 simp only [O,Option.bind_some,Z];rfl
def F1 (f fs:Str) (bs:List Int):Prop:=TX.BT.lookup f=some bs/\fs.cps.toList=f.cps.toList++TX.dw.cps.toList
instance (f fs:Str) (bs:List Int):Decidable (F1 f fs bs):=inferInstanceAs (Decidable (_/\_))
theorem Tc (f:Str) {fs:Str} (x:Str) (hf:fs.cps.toList=f.cps.toList++TX.dw.cps.toList):fs++x=Str.join TX.dw [f,x]:=TX.jV (by rw [TX.gM,TX.fJ,hf,yt];rfl)
theorem aaS (f:Str) {fs:Str} (x y:Str) (hf:fs.cps.toList=f.cps.toList++TX.dw.cps.toList):fs++x++TX.dw++y=Str.join TX.dw [f,x,y]:=TX.jV (by rw [TX.gM,TX.gM];simp only [TX.fJ,hf,yt];rfl)
theorem aaT (f:Str) {fs:Str} (x y z:Str) (hf:fs.cps.toList=f.cps.toList++TX.dw.cps.toList):fs++x++TX.dw++y++TX.dw++z=Str.join TX.dw [f,x,y,z]:=TX.jV (by rw [TX.gM,TX.gM,TX.gM];simp only [TX.fJ,hf,yt];rfl)
theorem nO {cl:Addr} {H:Hp} {x:Addr} {b n bd:Int} {f fs:Str} {R:Rt->List Sl->Prop} (hd:Dk cl H x b) (F:F1 f fs [bd]) (g:Good b f [n]) (z:bd<=10 ^ 40) (B:0<=n) (n1:n<=bd) (q:R (.rd (.str (ans b f [n]))) [.d (.atom (.ref x)),.d (.str (fs++TX.tx n))]):Az cl H [.d (.atom (.ref x)),.d (.str (fs++TX.tx n))] R:=by
 obtain ⟨r,a⟩:=nM F.1 (show fits [n] [bd] from ⟨⟨B,n1,z⟩,trivial⟩) (by simp) (by simp)
 rw [show f::[n].map TX.tx=[f,TX.tx n] from rfl,<-Tc f (TX.tx n) F.2] at r a
 exact ⟨x,b,_,f,[n],rfl,hd,a,r,g,q⟩
theorem Xr {cl:Addr} {H:Hp} {x:Addr} {b n:Int} {k:Nat} {R:Rt->List Sl->Prop} (hd:Dk cl H x b) (z:0<=n) (n1:n<=500) (k1:k<=12) (q:R (.rd (.str (TX.tx (M.cg true (M.aX b n).reverse k n)))) [.d (.atom (.ref x)),.d (.str (Str.ofString "ways "++TX.tx n++TX.dw++TX.tx k))]):Az cl H [.d (.atom (.ref x)),.d (.str (Str.ofString "ways "++TX.tx n++TX.dw++TX.tx k))] R:=by
 obtain ⟨r,a⟩:=nM (f:="ways") (by decide) (show fits [n,(k:Int)] [500,12] from ⟨⟨z,n1,by decide⟩,⟨by omega,by omega,by decide⟩,trivial⟩) (by simp) (by simp)
 rw [show ("ways":Str)::[n,(k:Int)].map TX.tx=[("ways":Str),TX.tx n,TX.tx k] from rfl,<-aaS "ways" (fs:=Str.ofString "ways ") (TX.tx n) (TX.tx k) (by decide)] at r a
 exact ⟨x,b,_,_,_,rfl,hd,a,r,⟨by decide,λe=>absurd e (by decide),λe=>absurd e (by decide)⟩,by rw [Fi];exact q⟩
theorem Xu {n pl:Int} {k:Nat} (B:0<=n) (n1:n<=500) (k1:k<=12) (z:0<=pl) (p1:pl<=10 ^ 40):TX.rowOf (Str.ofString "way "++TX.tx n++TX.dw++TX.tx k++TX.dw++TX.tx pl)=some (("way":Str),[n,k,pl])/\AT 50000 (Str.ofString "way "++TX.tx n++TX.dw++TX.tx k++TX.dw++TX.tx pl):=by
 obtain ⟨r,a⟩:=nM (f:="way") (by decide) (show fits [n,(k:Int),pl] [500,12,10 ^ 40] from ⟨⟨B,n1,by decide⟩,⟨by omega,by omega,by decide⟩,⟨z,p1,yn _⟩,trivial⟩) (by simp) (by simp)
 rw [show ("way":Str)::[n,(k:Int),pl].map TX.tx=[("way":Str),TX.tx n,TX.tx k,TX.tx pl] from rfl,<-aaT "way" (fs:=Str.ofString "way ") (TX.tx n) (TX.tx k) (TX.tx pl) (by decide)] at r a
 exact ⟨r,a⟩
theorem jb {b n:Int} {f:Str} (h:(decide (f≠"base") && decide (f≠"place") && decide (f≠"way"))=true):Good b f [n]:=by
 simp only [yx,yw] at h
 exact ⟨h.1.1,λe=>absurd e h.1.2,λe=>absurd e h.2⟩
theorem Dk.kp {C:Pc} {H:Hp} {cl x:Addr} {b:Int} (h:Dk cl C.H0 x b) (h0:C.bs=[]) (kp:Kp C H):Dk cl H x b:=by
 obtain ⟨⟨dx,e⟩,r⟩:=h
 exact ⟨⟨dx,kp _ _ e λq n=>by rw [h0] at n;cases n⟩,r⟩
theorem cF (b:Int):List.lookup (Str.ofString "say") [((Str.ofString "base"),V.int b)]=none:=by
 rw [y9,show ((Str.ofString "say") == (Str.ofString "base"))=false by decide];rfl
theorem Dm {n:Int} (h:TX.Nz n) {s:Str} (z:s.length<=1000):s.length+(TX.tx n).length<=100000:=by
 have:=h.len
 omega
def S_Q (cl:Addr):Bc:=λH as R=>∃(x:Addr) (b n:Int),as=[.d (.atom (.ref x)),.d (.int n)]/\Dk cl H x b/\0<=n/\n<=10 ^ 40/\R (.rd (.bl (M.bG b n))) as
theorem Xv (T:Zs K mg cs):Xc P w base 26 T.fM (S_Q T.cl):=by
 have z:=mz P w base T
 refine T.fM.F.Pq adF (λH as R h=>?_) (λcdv A outer s H E C as R Z J I Y h=>?_)
 ·obtain ⟨_,_,_,rfl,_⟩:=h;rfl
 have hu:=Y.units
 obtain ⟨x,b,n,rfl,D,U,n1,q⟩:=h
 have h0:C.bs=[]:=lR (ds:=[.atom (.ref x),.int n]) I
 subst J
 have B:=D
 obtain ⟨⟨dx,hx⟩,b0,b1⟩:=B
 refine ⟨_,(sr (sU Z hu (aq (bZ Z (qv 0) T.cls T.say z Y.m T.iH (a1 (aZ qs (aH rfl T.bw (a1 (qv 1))))))) qs)),?_⟩
 have O:=TX.bA U (zR n1 (by decide))
 simp only [Hh]
 refine ⟨_,_,_,rfl,hx,h0,cF b,?_⟩
 simp only [Hh]
 refine ⟨O.lg,?_⟩
 simp only [Hh]
 refine ⟨Dm O (by decide),?_⟩
 simp only [Hh]
 intro H kp
 refine nO (f:="is") (bd:=10 ^ 40) (D.kp h0 kp) (by decide) (jb (by decide)) (yn _) U n1 ?_
 rw [S8]
 simp only [Hh]
 have e:kW (.str (if M.bG b n=true then Str.ofString "yes" else Str.ofString "no")) (.str (Str.ofString "yes"))=M.bG b n:=by
  rw [uK];cases M.bG b n<;>decide
 show R (.rd (.bl (kW _ _))) _
 erw [e]
 exact q
def Ba (b n pl:Int) (k:Nat):D:=if pl<M.cg true (M.aX b n).reverse k n then .str (wt (M.nj (M.aX b n).reverse k n pl)) else .tup [.str (Str.ofString "NoPlace")]
def S_u (cs:XA) (cl:Addr):Bc:=λH as R=>∃(x:Addr) (b n pl:Int) (k:Nat) (w:Str),as=[.d (.atom (.ref x)),.d (.str w)]/\Dk cl H x b/\AT 50000 w/\TX.rowOf w=some (("way":Str),[n,k,pl])/\R (.rd (Ba b n pl k)) as
theorem aes (T:Zs K mg cs):Xc P w base 26 T.dU (S_u cs T.cl):=by
 have J:=mz P w base T
 refine T.dU.F.Pq Q0 (λH as R h=>?_) (λcdv A outer s H E C as R hK G8 hbs Y h=>?_)
 ·obtain ⟨_,_,_,_,_,_,rfl,_⟩:=h;rfl
 have hu:=Y.units
 have B:=Rm P w base T
 obtain ⟨x,b,n,pl,k,w,rfl,I,wa,D,q⟩:=h
 have h0:C.bs=[]:=lR (ds:=[.atom (.ref x),.str w]) hbs
 subst G8
 have O:=I
 obtain ⟨⟨dx,hx⟩,b0,b1⟩:=O
 unfold Ba at q
 refine ⟨_,(bf (aL (i:=2) Q0.nd rfl lc qs)
    (bf (Wr (λF0 pins E XE lk=>(aQ (aL (i:=2) Q0.nd rfl lc (aq (acR (K8 hK (qv 0) T.cls T.say J Y.m T.iH (a1 (qv 1))) (K9 hK (qv 0) T.cls T.say B Y.m T.iH lk (a1 (qv 1)))))))) (.cons T.oW (λF0 pins A=>(aQ (aL (i:=2) Q0.nd rfl lc (DY (a1 qs))))) .nil))
    (sr (qv 2)))),?_⟩
 refine ak λk0 U=>?_
 simp only [R]
 refine U _ ?_
 clear U k0
 by_cases z:pl<M.cg true (M.aX b n).reverse k n
 ·rw [zo z] at q
  show _\/_
  refine .inl ?_
  simp only [Hh]
  refine ⟨_,_,_,rfl,hx,h0,cF b,?_⟩
  simp only [Hh]
  intro H kp
  show Exists _
  refine ⟨x,b,w,_,_,rfl,I.kp h0 kp,wa,D,⟨by decide,λe=>absurd e (by decide),λ_=>z⟩,?_⟩
  rw [Dl]
  simp only [Hh]
  exact q
 ·rw [zi z] at q
  refine ak λkk Z=>?_
  simp only [R,Az,S9]
  refine .inr ⟨dx,_,hx,h0,cF b,_,λH kp=>⟨b,I.kp h0 kp,.way wa D (Int.not_lt.mp z)⟩,?_⟩
  have go:=Z [some (.d (.atom (.ref x))),some (.d (.str w)),some (.d (.tup [.str (Str.ofString "NoPlace")]))] (by simp only [Hh];exact q)
  exact ⟨_,T.nq,go⟩
def S_r (cl:Addr):Bc:=λH as R=>∃(x:Addr) (b n:Int),as=[.d (.atom (.ref x)),.d (.int n)]/\Dk cl H x b/\0<=n/\n<=10 ^ 40/\R (.rd (.bl true)) as
theorem aet (T:Zs K mg cs):Xc P w base 26 T.fV (S_r T.cl):=by
 have G_z:=aaO P w base T
 have z:=mz P w base T
 refine T.fV.F.Pq Q4 (λH as R h=>?_) (λcdv A outer s H E C as R U G8 hbs hr h=>?_)
 ·obtain ⟨_,_,_,rfl,_⟩:=h;rfl
 have hu:=hr.units
 obtain ⟨x,b,n,rfl,J,n0,n1,q⟩:=h
 have h0:C.bs=[]:=lR (ds:=[.atom (.ref x),.int n]) hbs
 subst G8
 have Z:=J
 obtain ⟨⟨dx,hx⟩,b0,b1⟩:=Z
 have nz:=TX.bA n0 (zR n1 (by decide))
 obtain ⟨L,hL⟩:=M.SJ b0 n0
 have eL:M.the (M.Fw b n)=L:=M.eH hL λ_ h=>h.uniq hL
 have wz:=M_ b0 n1 hL
 have ll:=hL.len b0 1100 (zR n1 (by decide))
 refine ⟨_,(bf (aL (i:=2) Q4.nd rfl lc (qv 1))
    (bf (jO zO rfl (dD U (aq (aj U T.dW G_z hr.m (a1 (aq (bZ U (qv 0) T.cls T.say z hr.m T.iH (a1 (aZ qs (aH rfl T.bw (a1 (qv 1))))))))))) (aO (i:=3) Q4.nd rfl lc) (bf (bD (PW.pt (w_or (sS (qv 3) qi) (iK (qK U hu (gf rfl T.iY (a1 (aq (bZ U (qv 0) T.cls T.say z hr.m T.iH (a1 (aZ qs (aH rfl T.bw (a1 (qv 2))))))))) (qv 3))))) (sr (jc cO (λ_=>.bl _))) aR)
    (aQ (aL (i:=2) Q4.nd rfl lc (bQ (qv 2) (qv 3))))))
    (sr (sU U hu (qv 2) qi)))),?_⟩
 refine ak λkk B=>?_
 simp only [Hh]
 refine B [dR x,dI n,dI n,none] ?_
 obtain ⟨I,hI⟩:∃I:Nat->aG->Prop,I=(λ(i:Nat) p=>∃(w3:Option D) (m:Int),M.Fw b m (L.drop i)/\m<=n/\p=[dR x,dI n,dI m,Option.map Sl.d w3]):=⟨_,rfl⟩
 refine cj (aaP ?_)
 simp only [Hh]
 refine ⟨_,_,_,rfl,hx,h0,cF b,?_⟩
 simp only [Hh]
 refine ⟨nz.lg,?_⟩
 simp only [Hh]
 refine ⟨Dm nz (by decide),?_⟩
 simp only [Hh]
 intro H kp
 refine nO (f:="few") (bd:=10 ^ 40) (J.kp h0 kp) (by decide) (jb (by decide)) (by decide) n0 n1 ?_
 rw [Dj]
 simp only [Hh]
 rw [eL]
 refine ⟨wz,by omega,?_⟩
 simp only [Hh]
 refine mV (n:=(L.map D.int).length) (item:=λi=>(L.map D.int).getD i .non) (p1:=[dR x,dI n,dI n,none]) (λQ h=>h) I (by rw [hI];exact ⟨none,n,hL,yn _,rfl⟩) ?_ ?_
 ·intro i p hi Y
  rw [hI] at Y
  obtain ⟨w3,m,O,mn,rfl⟩:=Y
  rw [z9] at hi
  rw [getD_ints hi]
  have hd:L.drop i=L.getD i 0::L.drop (i+1):=by
   rw [List.drop_eq_getElem_cons hi,zj,zd hi];rfl
  rw [hd] at O
  generalize L.getD i 0=y at O ⊢
  cases O with
  | cons h1 h2 h3=>
   have y1:=h2.one b0 h1
   have ym:=h2.le
   have zm:=TX.bA (show 0<=m by omega) (zR mn (zR n1 (by decide)))
   have zy:=TX.bA (show 0<=y by omega) (zR (yz ym mn) (zR n1 (by decide)))
   have ly:=zy.len
   have ey:M.the (M.AM b m)=y:=M.eH h2 λ_ h=>h.uniq h2
   simp only [Hg]
   refine ak λkk B=>?_
   simp only [Hh]
   refine jk (λc=>absurd c (Int.not_lt.mpr y1)) (λ_=>?_)
   simp only [Hh]
   refine ⟨_,_,_,rfl,hx,h0,cF b,?_⟩
   simp only [Hh]
   refine ⟨zm.lg,?_⟩
   simp only [Hh]
   refine ⟨Dm zm (by decide),?_⟩
   simp only [Hh]
   intro H kp
   refine nO (f:="below") (bd:=10 ^ 40) (J.kp h0 kp) (by decide) (jb (by decide)) (by decide) (show 0<=m by omega) (yz mn n1) ?_
   rw [rY]
   simp only [Hh]
   rw [ey]
   refine ⟨_,_,_,rfl,rfl,zy.rd,by omega,?_⟩
   simp only [Hh]
   refine jB ?_
   simp only [Hh]
   refine B [dR x,dI n,dI m,dI y] ?_
   simp only [Hh]
   show I (i+1) [dR x,dI n,dI (m - y),dI y]
   rw [hI]
   exact ⟨some _,_,h3,by omega,rfl⟩
 ·intro p Y
  rw [hI] at Y
  obtain ⟨w3,m,O,mn,rfl⟩:=Y
  rw [z9,List.drop_length] at O
  simp only [Hh]
  cases O
  show R (.rd (.bl (kW (.int 0) (.int 0)))) _
  rw [gB]
  exact q
theorem Nm {b n:Int} (B:2<=b) (D:0<=n) (n1:n<=10 ^ 40):(M.fg b n).length<=140:=by
 by_cases z:n=0
 ·subst z;rw [M.m7 B];decide
 have h:=M.fD B (show 1<=n by omega)
 unfold M.ln at h
 have h2:=M.gG B ((M.fg b n).length - 1)
 by_cases y:(M.fg b n).length<=140
 ·exact y
 ·have J:=M.oO (show 139<=(M.fg b n).length - 1 by omega)
  have I:(10:Int) ^ 40<2 ^ 139:=by decide
  omega
theorem Fl {b n:Int} (D:2<=b) (I:b<=36) (z:0<=n):∀x∈M.fg b n,0<=x/\x<10 ^ 50:=λx B=>by
 have:=(M.cT D z).jD x B
 exact ⟨this.1,by omega⟩
theorem Rv {b n:Int} (D:2<=b) (O:b<=36) (B:0<=n) (n1:n<=10 ^ 40):Txt.split (Txt.join TX.dw ((M.fg b n).map TX.tx)) TX.dw=(M.fg b n).map TX.tx/\(Txt.join TX.dw ((M.fg b n).map TX.tx)).length<=100000:=by
 have r:=Fl D O B
 have ne:=(M.cT D B).ne
 have l:=Nm D B n1
 rw [show Txt.join TX.dw ((M.fg b n).map TX.tx)=Str.join TX.dw ((M.fg b n).map TX.tx) from xk _ _]
 refine ⟨TX.split1 (by simpa using ne) λw J=>?_,yi (vU _ r).2 (by omega)⟩
 obtain ⟨m,I,rfl⟩:=zZ.mp J
 intro z
 have:=(TX.bA (r m I).1 (r m I).2).dig 32 z
 omega
theorem Rw {ns:List Int} {i:Nat} (hi:i<ns.length):((ns.map TX.tx).map D.str).getD i .non=.str (TX.tx (ns.getD i 0)):=by
 rw [zj,zP,zP,zd hi,zj,zd hi];rfl
theorem Rx (ns:List Int):(List.range ns.length).map (λi=>D.int (ns.getD i 0))=ns.map D.int:=by
 have:=zV (List.map D.int) (M.range_getD ns)
 rw [List.map_map] at this
 exact this
def S_e (cl:Addr):Bc:=λH as R=>∃(x:Addr) (b n:Int),as=[.d (.atom (.ref x)),.d (.int b),.d (.int n)]/\Dk cl H x b/\0<=n/\n<=10 ^ 40/\R (.rd (.bl true)) as
theorem aeu (T:Zs K mg cs):Xc P w base 27 T.dm (S_e T.cl):=by
 have Td:=Xv P w base T
 have Y:=mz P w base T
 refine T.dm.F.Pq Mw (λH as R h=>?_) (λcdv A outer s H E C as R J G8 hbs hr h=>?_)
 ·obtain ⟨_,_,_,rfl,_⟩:=h;rfl
 have hu:=hr.units
 obtain ⟨x,b,n,rfl,U,O,n1,q⟩:=h
 have h0:C.bs=[]:=lR (ds:=[.atom (.ref x),.int b,.int n]) hbs
 subst G8
 have Dn:=U
 obtain ⟨⟨dx,hx⟩,b0,b1⟩:=Dn
 have nz:=TX.bA O (zR n1 (by decide))
 have dg:=M.cT b0 O
 obtain ⟨ft,fl⟩:=Rv b0 b1 O n1
 have fr:=Fl b0 b1 O
 have ff:=Nm b0 O n1
 have em:decide (M.fg b n=(M.fg b n).reverse)=M.bG b n:=rfl
 have sp:Str.ofString " "=TX.dw:=rfl
 refine ⟨_,(bf (Cd (i:=3) Mw.nd rfl lc (N:=["word","desk","base","number","told","total","figure"]) (k:=1) (aV.of (show gr (aa s_e) ["desk","base","number","told","total","figure"] _ ["word","desk","base","number","told","total","figure"] 1 from ⟨by rfl,by decide,by decide,by rfl,by decide,by decide,by decide,by decide⟩)) rfl (dD J (aq (uV J (aq (bZ J (qv 0) T.cls T.say Y hr.m T.iH (a1 (aZ qs (aH rfl T.bw (a1 (qv 2))))))) (a1 qs)))) (λZ s H fp=>(dJ (i:=0) (by decide) (show List.Nodup (["word","desk","base","number","told","total","figure"]:List Str) by decide) rfl (Or.inl rfl) (Or.inr rfl))) (λZ s H fp=>jT) (λZ s H fp=>(gf rfl T.iY (a1 (qv 0)))))
    (bf (aL (i:=4) Mw.nd rfl lc qi)
    (bf (jO zO rfl (dD J (qv 3)) (aO (i:=5) Mw.nd rfl lc) (bf (aL (i:=4) Mw.nd rfl lc (cG (jH (qv 1) (qv 4)) (qv 5)))
    (aQ (bD (d7 (pP oZ RK qi (qv 5) (qv 1))) (sr (jc cO (λ_=>.bl _))) aR))))
    (bf (bD (PW.pt (w_or (qK J hu (qv 4) (qv 2)) (iK (PW.pt (w_and (jJ J hu (qx J (qv 3)) qi) (Jm (Ec J hu (qv 3) (aq (dG (a1 qi)))))))))) (sr (jc cO (λ_=>.bl _))) aR)
    (sr (sU J hu (aq (c7 J T.fM Td hr.m (a2 (qv 0) (qv 2)))) (JX J hu (qv 3) (aq (Ju J (qv 3)))))))))),?_⟩
 refine ak λkk B=>?_
 simp only [S]
 refine Di ?_
 simp only [Hh]
 refine ⟨_,_,_,rfl,hx,h0,cF b,?_⟩
 simp only [Hh]
 refine ⟨nz.lg,?_⟩
 simp only [Hh]
 refine ⟨Dm nz (by decide),?_⟩
 simp only [Hh]
 intro H kp
 refine nO (f:="figures") (bd:=10 ^ 40) (U.kp h0 kp) (by decide) (jb (by decide)) (by decide) O n1 ?_
 rw [rW]
 simp only [Hh]
 rw [sp,ft]
 generalize hL:M.fg b n=L at *
 have ll:((L.map TX.tx).map D.str).length=L.length:=by rw [z9,z9]
 refine ⟨fl,by rw [z9];omega,?_⟩
 simp only [Hh]
 refine comp_map (n:=((L.map TX.tx).map D.str).length) (item:=λi=>((L.map TX.tx).map D.str).getD i .non) (p1:=[dR x,dI b,dI n,none,none,none]) (λQ h=>h) (by rw [ll];omega) (λi=>.int (L.getD i 0)) (λi R hi h=>?_) ?_
 ·rw [ll] at hi
  rw [Rw hi] at h ⊢
  have hm:=fr (L.getD i 0) (by rw [zj,zd hi];exact yd hi)
  have nz:=TX.bA hm.1 hm.2
  have ln:=nz.len
  simp only [Hh]
  exact ⟨_,_,_,rfl,rfl,nz.rd,by omega,h⟩
 rw [ll,Rx]
 refine ⟨rfl,B [dR x,dI b,dI n,dL L,none,none] ?_⟩
 refine ak λkk B=>?_
 simp only [Hh]
 refine B [dR x,dI b,dI n,dL L,dI 0,none] ?_
 obtain ⟨I,hI⟩:∃I:Nat->aG->Prop,I=(λ(i:Nat) p=>∃w5:Option D,p=[dR x,dI b,dI n,dL L,dI (M.val b (L.take i)),Option.map Sl.d w5]):=⟨_,rfl⟩
 refine cj (mV (n:=(L.map D.int).length) (item:=λi=>(L.map D.int).getD i .non) (p1:=[dR x,dI b,dI n,dL L,dI 0,none]) (λQ h=>by
  simp only [Hh]
  exact h) I (by rw [hI];exact ⟨none,rfl⟩) ?_ ?_)
 ·intro i p hi hp
  rw [hI] at hp
  obtain ⟨w5,rfl⟩:=hp
  rw [z9] at hi
  rw [getD_ints hi]
  have hm:=dg.jD (L.getD i 0) (by rw [zj,zd hi];exact yd hi)
  have tk:M.val b (L.take (i+1))=b * M.val b (L.take i)+L.getD i 0:=by
   rw [List.take_succ,zd hi,show (some L[i]).toList=[L[i]] from rfl,M.gF,yA,zj,zd hi];rfl
  simp only [Hg]
  refine ak λkk B=>?_
  simp only [Hh]
  refine ⟨.inl ⟨by omega,by omega⟩,?_⟩
  simp only [Hh]
  refine B [dR x,dI b,dI n,dL L,dI (b * M.val b (L.take i)+L.getD i 0),dI (L.getD i 0)] ?_
  simp only [Hh]
  refine jk (λ_=>?_) (λc=>absurd hm.1 c)
  simp only [Hh]
  refine aaQ (λ_=>?_) (λc=>absurd hm.2 c)
  simp only [Hh]
  show I (i+1) [dR x,dI b,dI n,dL L,dI (b * M.val b (L.take i)+L.getD i 0),dI (L.getD i 0)]
  rw [<-tk,hI]
  exact ⟨some _,rfl⟩
 ·intro p hp
  rw [hI] at hp
  obtain ⟨w5,rfl⟩:=hp
  rw [z9,List.take_length,dg.val]
  dsimp only
  refine ak λkk B=>?_
  simp only [Hh]
  show if (!(kW (.int n) (.int n)))=true then _ else _
  refine jB ?_
  simp only [Hh]
  obtain ⟨d,r,eL⟩:=List.exists_cons_of_ne_nil dg.ne
  have a0:h_ (L.map D.int) 0=some (.int d):=by rw [eL];have h:h_ (D.int d::r.map D.int) ((0:Nat):Int)=some (.int d):=j4 rfl;exact h
  refine ⟨_,_,_,rfl,rfl,a0,?_⟩
  simp only [Hh]
  suffices go:kk [dR x,dI b,dI n,dL L,dI n,Option.map Sl.d w5] by
   refine K_ (λe=>?_) (λ_=>?_)
   ·have:L=[0]:=by
     rcases dg.hd with z|z
     ·rw [eL,e] at z ⊢;rw [zJ] at z;rw [yI.mp (show r.length=0 by omega)]
     ·exact absurd (by rw [eL,e];rfl) z
    subst this
    simp only [Hh]
    refine ⟨oG.ints [0],oG.ints [0],?_⟩
    simp only [Hh]
    exact go
   simp only [Hh]
   exact go
  refine B [dR x,dI b,dI n,dL L,dI n,Option.map Sl.d w5] ?_
  simp only [Hh]
  refine λH kp=>⟨x,b,n,rfl,U.kp h0 kp,O,n1,?_⟩
  simp only [Hh]
  refine ⟨oG.ints _,by rw [<-xr];exact oG.ints _,dZ.bl _ _,?_⟩
  simp only [Hh]
  have e:oH (.lst (L.map D.int)) (.lst (L.map D.int).reverse)=M.bG b n:=by
   rw [<-xr,oJ];exact em
  show R (.rd (.bl (kW (.bl (M.bG b n)) (.bl (oH (.lst (L.map D.int)) (.lst (L.map D.int).reverse)))))) _
  rw [e,gB]
  exact q
theorem aev {x:Sl}:True:=trivial
def S_n (cl:Addr):Bc:=λH as R=>∃(x:Addr) (b n:Int),as=[.d (.atom (.ref x)),.d (.int n)]/\Dk cl H x b/\0<=n/\n<=10 ^ 40/\R (.rd (.bl true)) as
theorem aew (T:Zs K mg cs):Xc P w base 27 T.eY (S_n T.cl):=by
 have Td:=Xv P w base T
 have I:=mz P w base T
 refine T.eY.F.Pq Q3 (λH as R h=>?_) (λcdv A outer s H E C as R U G8 hbs hr h=>?_)
 ·obtain ⟨_,_,_,rfl,_⟩:=h;rfl
 have hu:=hr.units
 obtain ⟨x,b,n,rfl,O,n0,n1,q⟩:=h
 have h0:C.bs=[]:=lR (ds:=[.atom (.ref x),.int n]) hbs
 subst G8
 have Dn:=O
 obtain ⟨⟨dx,hx⟩,b0,b1⟩:=Dn
 have nz:=TX.bA n0 (zR n1 (by decide))
 obtain ⟨lo,B⟩:=M.uf b0 n.toNat
 rw [show ((n.toNat:Nat):Int)=n by omega] at B
 obtain ⟨hi,J⟩:=M.Z7 b0 n0
 have elo:M.the (M.AM b n)=lo:=M.eH B λ_ h=>h.uniq B
 have ehi:M.the (M.AL b n)=hi:=M.eH J λ_ h=>h.uniq J
 have Z:=TX.bA B.mp.1 (zR B.le (zR n1 (by decide)))
 have zhi:=TX.bA J.mp.1 (S6 b0 b1 n0 n1 J)
 have llo:=Z.len
 have lhi:=zhi.len
 have ed:kW (.int lo) (.int hi)=M.bG b n:=by
  have:=M.Mh n0 B J
  rw [pO]
  cases z:M.bG b n with
  | true=>exact zW (this.mpr z)
  | false=>exact zQ (λe=>by rw [this.mp e] at z;cases z)
 obtain ⟨c0,c1⟩:=M9 b0 b1 n0 n1
 have Y:=TX.bA c0 (yL c1 (by decide))
 have epl:M.pl b lo=M.cnt b n:=M.lV b0 n0 B
 have eat:M.the (λm=>M.Mp b m/\M.pl b m=M.cnt b n)=lo:=M.eH ⟨B.mp,epl⟩ λ_ h=>M.CZ b0 h.1 B.mp (h.2.trans epl.symm)
 refine ⟨_,(bf (aL (i:=2) Q3.nd rfl lc (gf rfl T.iY (a1 (aq (bZ U (qv 0) T.cls T.say I hr.m T.iH (a1 (aZ qs (aH rfl T.bw (a1 (qv 1))))))))))
    (bf (aL (i:=3) Q3.nd rfl lc (gf rfl T.iY (a1 (aq (bZ U (qv 0) T.cls T.say I hr.m T.iH (a1 (aZ qs (aH rfl T.bw (a1 (qv 1))))))))))
    (bf (bD (PW.pt (w_or (d7 (pP oZ oZ (qv 2) (qv 1) (qv 3))) (iK (d7 (fu (aq (c7 U T.fM Td hr.m (a2 (qv 0) (qv 2))))))))) (sr (jc cO (λ_=>.bl _))) aR)
    (bf (bD (qK U hu (sU U hu (qv 2) (qv 3)) (aq (c7 U T.fM Td hr.m (a2 (qv 0) (qv 1))))) (sr (jc cO (λ_=>.bl _))) aR)
    (bf (aL (i:=4) Q3.nd rfl lc (gf rfl T.iY (a1 (aq (bZ U (qv 0) T.cls T.say I hr.m T.iH (a1 (aZ qs (aH rfl T.bw (a1 (qv 1))))))))))
    (bf (bD (qK U hu (aq (bZ U (qv 0) T.cls T.say I hr.m T.iH (a1 (aZ qs (aH rfl T.bw (a1 (qv 2))))))) (aH rfl T.bw (a1 (qv 4)))) (sr (jc cO (λ_=>.bl _))) aR)
    (bf (bD (PW.pt (w_or (xK (qv 3) (DW qi qi)) (iK (Gm (qv 4) (DW qi qi))))) (sr (jc cO (λ_=>.bl _))) aR)
    (bf (bD (qK U hu (aq (bZ U (qv 0) T.cls T.say I hr.m T.iH (a1 (aZ qs (aH rfl T.bw (a1 (qv 4))))))) (aH rfl T.bw (a1 (qv 2)))) (sr (jc cO (λ_=>.bl _))) aR)
    (sr (Jr (sU U hu (aq (bZ U (qv 0) T.cls T.say I hr.m T.iH (a1 (aZ qs (aH rfl T.bw (a1 (cG (qv 4) (BV rfl T.iY (a1 (ac8 (qv 3) (qv 2))))))))))) (aH rfl T.bw (a1 (qv 3)))) (Jq (aq (c7 U T.fM Td hr.m (a2 (qv 0) (qv 3))))))))))))))),?_⟩
 refine ak λkk D=>?_
 simp only [Hh]
 refine ⟨_,_,_,rfl,hx,h0,cF b,?_⟩
 simp only [Hh]
 refine ⟨nz.lg,?_⟩
 simp only [Hh]
 refine ⟨Dm nz (by decide),?_⟩
 simp only [Hh]
 intro H kp
 refine nO (f:="below") (bd:=10 ^ 40) (O.kp h0 kp) (by decide) (jb (by decide)) (by decide) n0 n1 ?_
 rw [rY]
 simp only [Hh]
 rw [elo]
 refine ⟨_,_,_,rfl,rfl,Z.rd,by omega,?_⟩
 simp only [Hh]
 refine D [dR x,dI n,dI lo,none,none] ?_
 refine ak λkk D=>?_
 simp only [Hh]
 refine ⟨_,_,_,rfl,hx,h0,cF b,?_⟩
 simp only [Hh]
 refine ⟨nz.lg,?_⟩
 simp only [Hh]
 refine ⟨Dm nz (by decide),?_⟩
 simp only [Hh]
 intro H kp
 refine nO (f:="above") (bd:=10 ^ 40) (O.kp h0 kp) (by decide) (jb (by decide)) (by decide) n0 n1 ?_
 rw [Aw]
 simp only [Hh]
 rw [ehi]
 refine ⟨_,_,_,rfl,rfl,zhi.rd,by omega,?_⟩
 simp only [Hh]
 refine D [dR x,dI n,dI lo,dI hi,none] ?_
 refine ak λkk D=>?_
 simp only [Hh]
 refine jk (λ_=>?_) (λc=>absurd B.le c)
 simp only [Hh]
 refine aaQ (λ_=>?_) (λc=>absurd J.le c)
 simp only [Hh]
 refine λH kp=>⟨x,b,lo,rfl,O.kp h0 kp,B.mp.1,yz B.le n1,?_⟩
 rw [B.mp.2]
 simp only [Hh]
 refine D [dR x,dI n,dI lo,dI hi,none] ?_
 refine ak λkk D=>?_
 simp only [Hh]
 refine λH kp=>⟨x,b,n,rfl,O.kp h0 kp,n0,n1,dZ.bl _ _,?_⟩
 simp only [Hh]
 show if (!(kW (.bl (kW (.int lo) (.int hi))) (.bl (M.bG b n))))=true then _ else _
 rw [ed,gB]
 refine Wq (λz=>absurd z (by decide)) (λ_=>?_)
 simp only [Hh]
 refine D [dR x,dI n,dI lo,dI hi,none] ?_
 refine ak λkk D=>?_
 simp only [Hh]
 refine ⟨_,_,_,rfl,hx,h0,cF b,?_⟩
 simp only [Hh]
 refine ⟨nz.lg,?_⟩
 simp only [Hh]
 refine ⟨Dm nz (by decide),?_⟩
 simp only [Hh]
 intro H kp
 refine nO (f:="count") (bd:=10 ^ 40) (O.kp h0 kp) (by decide) (jb (by decide)) (by decide) n0 n1 ?_
 rw [Ax]
 simp only [Hh]
 refine ⟨_,_,_,rfl,rfl,Y.rd,by have:=Y.len;omega,?_⟩
 simp only [Hh]
 refine D [dR x,dI n,dI lo,dI hi,dI (M.cnt b n)] ?_
 refine ak λkk D=>?_
 simp only [Hh]
 refine ⟨_,_,_,rfl,hx,h0,cF b,?_⟩
 simp only [Hh]
 refine ⟨Z.lg,?_⟩
 simp only [Hh]
 refine ⟨Dm Z (by decide),?_⟩
 simp only [Hh]
 intro H kp
 refine nO (f:="place") (bd:=10 ^ 40) (O.kp h0 kp) (by decide) ⟨by decide,λ_=>B.mp.2,λe=>absurd e (by decide)⟩ (by decide) B.mp.1 (yz B.le n1) ?_
 rw [Ay]
 simp only [Hh]
 rw [epl]
 refine ⟨Y.lg,dZ.str _ _,?_⟩
 simp only [Hh]
 refine jB ?_
 simp only [Hh]
 refine D [dR x,dI n,dI lo,dI hi,dI (M.cnt b n)] ?_
 refine ak λkk D=>?_
 simp only [Hh]
 refine ⟨⟨by decide,by decide,by decide⟩,?_⟩
 simp only [Hh]
 refine jk (λ_=>by simp only [Hh];exact q) (λa1=>?_)
 simp only [Hh]
 refine ⟨⟨by decide,by decide,by decide⟩,?_⟩
 simp only [Hh]
 refine jk (λ_=>by simp only [Hh];exact q) (λa2=>?_)
 have a3:M.cnt b n<10 ^ 20:=Int.not_le.mp a2
 simp only [Hh]
 refine D [dR x,dI n,dI lo,dI hi,dI (M.cnt b n)] ?_
 refine ak λkk D=>?_
 simp only [Hh]
 refine ⟨_,_,_,rfl,hx,h0,cF b,?_⟩
 simp only [Hh]
 refine ⟨Y.lg,?_⟩
 simp only [Hh]
 refine ⟨Dm Y (by decide),?_⟩
 simp only [Hh]
 intro H kp
 refine nO (f:="at") (bd:=10 ^ 20) (O.kp h0 kp) (by decide) (jb (by decide)) (by decide) c0 (by omega) ?_
 rw [Nf]
 simp only [Hh]
 rw [eat]
 refine ⟨Z.lg,dZ.str _ _,?_⟩
 simp only [Hh]
 refine jB ?_
 simp only [Hh]
 refine D [dR x,dI n,dI lo,dI hi,dI (M.cnt b n)] ?_
 simp only [Hh]
 obtain ⟨w,hw,w0,w1⟩:∃w:Int,M.cnt b n+(if decide (lo<hi)=true then 1 else 0)=w/\0<=w/\w<=10 ^ 20:=⟨_,rfl,by split<;>omega,by split<;>omega⟩
 have zw:=TX.bA w0 (zR w1 (by decide))
 have ew:M.the (λm=>M.Mp b m/\M.pl b m=w)=hi:=by
  have e:M.pl b hi=w:=by
   rw [<-hw]
   by_cases z:lo<hi
   ·rw [zo (zW z),M.Ep b0 B.mp (M.Z6 B J z),epl]
   ·have:=B.le
    have:=J.le
    have:hi=lo:=by omega
    rw [zi (by rw [zQ z];decide),this,epl,yK]
  exact M.eH ⟨J.mp,e⟩ λ_ h=>M.CZ b0 h.1 J.mp (h.2.trans e.symm)
 refine ⟨_,_,_,rfl,hx,h0,cF b,?_⟩
 simp only [Hh]
 rw [hw]
 refine ⟨zw.lg,?_⟩
 simp only [Hh]
 refine ⟨Dm zw (by decide),?_⟩
 simp only [Hh]
 intro H kp
 refine nO (f:="at") (bd:=10 ^ 20) (O.kp h0 kp) (by decide) (jb (by decide)) (by decide) w0 w1 ?_
 rw [Nf,ew]
 simp only [Hh]
 refine ⟨zhi.lg,dZ.str _ _,?_⟩
 simp only [Hh]
 refine Rr ?_
 simp only [Hh]
 refine λH kp=>⟨x,b,hi,rfl,O.kp h0 kp,J.mp.1,Int.not_lt.mp a1,?_⟩
 rw [J.mp.2]
 simp only [Hh]
 exact q
theorem kZ (s:String):PyData.strOk (Str.ofString s)=true:=by
 unfold PyData.strOk
 rw [Str.ofString_eq_toList,Array.all_eq_true_iff_forall_mem]
 intro c n
 have n:c∈s.toList.map Char.toNat:=by simpa using n
 obtain ⟨k,_,rfl⟩:=zZ.mp n
 have:=k.valid
 simp only [yw]
 unfold Char.toNat
 have h:k.val.toNat.isValidChar:=this
 unfold Nat.isValidChar at h
 omega
theorem Np {a b:Str} (h:PyData.strOk a=true) (g:PyData.strOk b=true):PyData.strOk (a++b)=true:=by
 unfold PyData.strOk at *
 rw [Array.all_eq_true_iff_forall_mem] at *
 intro c n
 have n:c∈(a++b).cps.toList:=by simpa using n
 rw [TX.fJ] at n
 rcases zT.mp n with z|z
 ·exact h c (by simpa using z)
 ·exact g c (by simpa using z)
theorem vV {sp:Str} (z:PyData.strOk sp=true):∀(ns:List Int),PyData.strOk (Str.join sp (ns.map TX.tx))=true
 | []=>by show PyData.strOk Str.empty=true;decide
 | [n]=>kZ _
 | n::m::r=>Np (Np (kZ _) z) (vV z (m::r))
theorem agd (ns:List Int):PyData.strOk (wt ns)=true:=by
 unfold wt
 split
 ·exact kZ _
 ·rw [show Txt.join TX.sep (ns.map TX.tx)=Str.join TX.sep (ns.map TX.tx) from xk _ _];exact vV (kZ _) ns
theorem Fo {t:Str} (h:PyData.strOk t=true):oG (.str t):=⟨by simp [L2.plain],by simp [toP,PyData.canLay0,h],by simp [toP,PyData.depth]⟩
theorem Te {t:Str} (h:PyData.strOk t=true):oG (.tup [.str t]):=⟨by simp [L2.plain,L2.lK],by simp [toP,toPs,PyData.canLay0,PyData.canLayAll0,h],by simp [toP,toPs,PyData.depth,PyData.depthAll]⟩
theorem Dk.kpB {C:Pc} {H:Hp} {cl x:Addr} {b:Int} (h:Dk cl C.H0 x b) (h0:∀q∈C.bs,q.2≠x) (kp:Kp C H):Dk cl H x b:=by
 obtain ⟨⟨dx,e⟩,r⟩:=h
 exact ⟨⟨dx,kp _ _ e h0⟩,r⟩
def S_g (cl:Addr):Bc:=λH as R=>∃(x:Addr) (h:List D) (b n m:Int),as=[.d (.atom (.ref x)),.bor h,.d (.int b),.d (.int n)]/\Dk cl H x b/\jZ m h/\m<=10 ^ 5/\0<=n/\n<=500/\∀h',jZ (m+2) h'->R (.rd (.bl true)) [.d (.atom (.ref x)),.bor h',.d (.int b),.d (.int n)]
theorem aez (T:Zs K mg cs):Xc P w base 27 T.eX (S_g T.cl):=by
 have G_C:=aax P w base T
 have Xw:=Xo P w base T
 have G_u:=aes P w base T
 have G_p:=aay P w base T
 have aaV:=mz P w base T
 refine T.eX.F.Pq An (λH as R h=>?_) (λcdv A outer s H E C as R J G8 hbs U h=>?_)
 ·obtain ⟨_,_,_,_,_,rfl,_⟩:=h;rfl
 have hu:=U.units
 obtain ⟨x,h,b,n,m,rfl,Y,hd,m5,O,n1,q⟩:=h
 subst G8
 have Dn:=Y
 obtain ⟨⟨dx,hx⟩,b0,b1⟩:=Dn
 have h0:∀q∈C.bs,q.2≠x:=λq hq e=>by
  obtain ⟨_,us,hu⟩:=hbs q hq
  rw [e,hx] at hu
  cases hu
 have nz:=TX.bA O (zR n1 (by decide))
 have u1:(Str.ofString "ways "++TX.tx n).length<=60:=la (m:=10) (by decide) nz.len
 have u2:(Str.ofString "ways "++TX.tx n++TX.dw).length<=61:=la u1 (k:=1) (by decide)
 have v1:(Str.ofString "way "++TX.tx n).length<=60:=la (m:=10) (by decide) nz.len
 have v2:(Str.ofString "way "++TX.tx n++TX.dw).length<=61:=la v1 (k:=1) (by decide)
 refine ⟨_,(bf (jO zO rfl (jN rfl T.e_ (a1 qi)) (aO (i:=4) An.nd rfl lc) (bf (aL (i:=5) An.nd rfl lc (aq (Qu J (qv 0) T.cls T.say aaV U.m T.iH (a1 (aZ (aZ (aZ qs (aH rfl T.bw (a1 (qv 3)))) qs) (aH rfl T.bw (a1 (qv 4))))))))
    (aQ (bD (qK J hu (qv 5) (aH rfl T.bw (a1 (aq (aj J T.fL G_C U.m (a3 (qv 3) (qv 2) (qv 4))))))) (sr (jc cO (λ_=>.bl _))) aR))))
    (bf (aL (i:=4) An.nd rfl lc (cG qi (aq (aj J T.bC Xw U.m (a2 (qv 1) qi)))))
    (bf (aL (i:=6) An.nd rfl lc (aq (aj J T.fL G_C U.m (a3 (qv 3) (qv 2) (qv 4)))))
    (bf (aL (i:=7) An.nd rfl lc (aZ (aZ (aZ (aZ qs (aH rfl T.bw (a1 (qv 3)))) qs) (aH rfl T.bw (a1 (qv 4)))) qs))
    (bf (bD (Ec J hu (aq (c7 J T.dU G_u U.m (a2 (qv 0) (aZ (qv 7) (aH rfl T.bw (a1 (qv 6))))))) (DY (a1 qs))) (sr (jc cO (λ_=>.bl _))) aR)
    (bf (bD (jJ J hu (qv 6) qi) (sr (jc cO (λ_=>.bl _))) aR)
    (bf (aL (i:=8) An.nd rfl lc (aq (aj J T.bC Xw U.m (a2 (qv 1) (qv 6)))))
    (bf (aL (i:=9) An.nd rfl lc (Ci J qs (a1 (aq (lJ (N:=["part","desk","deck","base","number","many","told","count","words","place","due"]) (k:=1) (aV.of (show gr (aa s_g) ["desk","deck","base","number","many","told","count","words","place","due"] _ ["part","desk","deck","base","number","many","told","count","words","place","due"] 1 from ⟨by rfl,by decide,by decide,by rfl,by decide,by decide,by decide,by decide⟩)) rfl (dD J (aq (aj J T.gR G_p U.m (cA (qv 3) (a3 (qv 2) (qv 4) (qv 8)))))) (λZ s H fp=>(dJ (i:=0) (by decide) (show List.Nodup (["part","desk","deck","base","number","many","told","count","words","place","due"]:List Str) by decide) rfl (Or.inl rfl) (Or.inr rfl))) (λZ s H fp=>jT) (λZ s H fp=>(aH rfl T.bw (a1 (qv 0)))))))))
    (sr (JX J hu (aq (c7 J T.dU G_u U.m (a2 (qv 0) (aZ (qv 7) (aH rfl T.bw (a1 (qv 8))))))) (qv 9))))))))))),?_⟩
 obtain ⟨I,hI⟩:∃I:Nat->aG->Prop,I=(λ(i:Nat) p=>∃w4 w5:Option D,p=[dR x,some (.bor h),dI b,dI n,Option.map Sl.d w4,Option.map Sl.d w5,none,none,none,none]):=⟨_,rfl⟩
 refine cj (mV (n:=13) (item:=λi=>.int (i:Int)) (p1:=[dR x,some (.bor h),dI b,dI n,none,none,none,none,none,none]) (λQ h=>by
  simp only [Q]
  exact h) I (by rw [hI];exact ⟨none,none,rfl⟩) ?_ ?_)
 ·intro i p hi hp
  rw [hI] at hp
  obtain ⟨w4,w5,rfl⟩:=hp
  obtain ⟨c0,c1⟩:=Nb b0 b1 O n1 (show i<=12 by omega)
  have zk:=TX.bA (n:=(i:Int)) (by omega) (by omega)
  have zc:=TX.bA c0 (yL c1 (by decide))
  simp only [Hg]
  refine ak λkk B=>?_
  simp only [Hh]
  refine ⟨_,_,_,rfl,hx,h0,cF b,?_⟩
  simp only [Hh]
  refine ⟨nz.lg,?_⟩
  simp only [Hh]
  refine ⟨lb (m:=10) (by decide) nz.len (by decide),?_⟩
  simp only [Hh]
  refine ⟨lb (k:=1) u1 (by decide) (by decide),?_⟩
  simp only [Hh]
  refine ⟨zk.lg,?_⟩
  simp only [Hh]
  refine ⟨lb u2 zk.len (by decide),?_⟩
  simp only [Hh]
  intro H kp
  refine Xr (Y.kpB h0 kp) O n1 (by omega) ?_
  simp only [Hh]
  refine B [dR x,some (.bor h),dI b,dI n,dI i,some (.d (.str (TX.tx (M.cg true (M.aX b n).reverse i n)))),none,none,none,none] ?_
  simp only [Hh]
  refine ⟨O,by omega,b0,b1,by omega,?_⟩
  simp only [Hh]
  refine ⟨zc.lg,?_⟩
  simp only [Hh]
  refine jB ?_
  simp only [Hh]
  show I (i+1) [dR x,some (.bor h),dI b,dI n,dI i,some (.d (.str (TX.tx (M.cg true (M.aX b n).reverse i n)))),none,none,none,none]
  rw [hI]
  exact ⟨some _,some _,rfl⟩
 ·intro p hp
  rw [hI] at hp
  obtain ⟨w4,w5,rfl⟩:=hp
  dsimp only
  refine ak λkk B=>?_
  simp only [R,Ni]
  refine ⟨m,hd,by omega,λg h1 g0 g1 hd1=>B _ ?_⟩
  obtain ⟨k,ek⟩:∃k:Nat,1+g=(k:Int):=⟨(1+g).toNat,by omega⟩
  rw [ek]
  obtain ⟨c0,c1⟩:=Nb b0 b1 O n1 (show k<=12 by omega)
  have zk:=TX.bA (n:=(k:Int)) (by omega) (by omega)
  have zc:=TX.bA c0 (yL c1 (by decide))
  refine ak λkk B=>?_
  simp only [Hh]
  refine ⟨O,by omega,b0,b1,by omega,?_⟩
  simp only [Hh]
  generalize hc:M.cg true (M.aX b n).reverse k n=c at *
  refine B [dR x,some (.bor h1),dI b,dI n,dI k,Option.map Sl.d w5,dI c,none,none,none] ?_
  have v3:(Str.ofString "way "++TX.tx n++TX.dw++TX.tx (k:Int)).length<=111:=la v2 zk.len
  have v4:(Str.ofString "way "++TX.tx n++TX.dw++TX.tx (k:Int)++TX.dw).length<=112:=la v3 (k:=1) (by decide)
  refine ak λkk B=>?_
  simp only [Hh]
  refine ⟨nz.lg,?_⟩
  simp only [Hh]
  refine ⟨lb (m:=10) (by decide) nz.len (by decide),?_⟩
  simp only [Hh]
  refine ⟨lb (k:=1) v1 (by decide) (by decide),?_⟩
  simp only [Hh]
  refine ⟨zk.lg,?_⟩
  simp only [Hh]
  refine ⟨lb v2 zk.len (by decide),?_⟩
  simp only [Hh]
  refine ⟨lb (k:=1) v3 (by decide) (by decide),?_⟩
  simp only [Hh]
  refine B [dR x,some (.bor h1),dI b,dI n,dI k,Option.map Sl.d w5,dI c,some (.d (.str (Str.ofString "way "++TX.tx n++TX.dw++TX.tx (k:Int)++TX.dw))),none,none] ?_
  refine ak λkk B=>?_
  simp only [Hh]
  refine ⟨zc.lg,?_⟩
  simp only [Hh]
  refine ⟨lb v4 zc.len (by decide),?_⟩
  simp only [Hh]
  intro H kp
  obtain ⟨r3,a3⟩:=Xu (pl:=c) O n1 (show k<=12 by omega) c0 (Int.le_of_lt c1)
  refine ⟨x,b,n,c,k,_,rfl,Y.kpB h0 kp,a3,r3,?_⟩
  rw [show Ba b n c k=.tup [.str (Str.ofString "NoPlace")] from zi (by rw [hc];exact Int.lt_irrefl c)]
  simp only [Hh]
  refine ⟨Te (kZ _),Te (kZ _),?_⟩
  simp only [Hh]
  refine B [dR x,some (.bor h1),dI b,dI n,dI k,Option.map Sl.d w5,dI c,some (.d (.str (Str.ofString "way "++TX.tx n++TX.dw++TX.tx (k:Int)++TX.dw))),none,none] ?_
  refine ak λkk B=>?_
  simp only [Hh]
  refine K_ (λ_=>?_) (λcz=>?_)
  ·simp only [Hh]
   exact q _ (hd1.mono (by omega))
  simp only [Hh]
  refine B [dR x,some (.bor h1),dI b,dI n,dI k,Option.map Sl.d w5,dI c,some (.d (.str (Str.ofString "way "++TX.tx n++TX.dw++TX.tx (k:Int)++TX.dw))),none,none] ?_
  refine ak λkk B=>?_
  simp only [R,Ni]
  refine ⟨_,hd1,by omega,by omega,by omega,λpl h2 p0 p1 hd2=>B _ ?_⟩
  obtain ⟨r4,a4⟩:=Xu (pl:=pl) O n1 (show k<=12 by omega) p0 (by omega)
  have zp:=TX.bA p0 (yL p1 (yL c1 (by decide)))
  refine ak λkk B=>?_
  simp only [S]
  refine Di ?_
  simp only [Hh]
  refine ⟨O,by omega,b0,b1,by omega,p0,by rw [hc];exact p1,?_⟩
  obtain ⟨w1,w2⟩:=M.C_ (M.aX b n).reverse k n pl
  have w3:=M.QH (M.aX b n).reverse (λy hy=>by have:=(M.gh O).mp (zY.mp hy);omega) k n pl p0 (by rw [hc];exact p1)
  have wm:∀y∈M.nj (M.aX b n).reverse k n pl,0<=y/\y<10 ^ 50:=λy hy=>by
   have:=(M.gh O).mp (zY.mp (w1 y hy));omega
  have ew:Ba b n pl k=.str (Txt.join TX.sep ((M.nj (M.aX b n).reverse k n pl).map TX.tx)):=by
   unfold Ba wt
   rw [zo (by rw [hc];exact p1),zi (λz=>by rw [z] at w3;simp at w3;omega)]
  have dk:oG (.str (Txt.join TX.sep ((M.nj (M.aX b n).reverse k n pl).map TX.tx))):=by
   rw [show Txt.join TX.sep ((M.nj (M.aX b n).reverse k n pl).map TX.tx)=Str.join TX.sep ((M.nj (M.aX b n).reverse k n pl).map TX.tx) from xk _ _]
   exact Fo (vV (kZ _) _)
  generalize M.nj (M.aX b n).reverse k n pl=L at *
  simp only [Hh]
  refine comp_map (n:=(L.map D.int).length) (item:=λi=>(L.map D.int).getD i .non) (p1:=_) (λQ h=>h) (by rw [z9];omega) (λi=>.str (TX.tx (L.getD i 0))) (λi R hi h=>?_) ?_
  ·rw [z9] at hi
   rw [getD_ints hi] at h ⊢
   have hn:=wm (L.getD i 0) (by rw [zj,zd hi];exact yd hi)
   simp only [Hh]
   exact ⟨(TX.bA hn.1 hn.2).lg,h⟩
  rw [z9,Dh]
  refine ⟨_,rfl,vR (by decide) wm (by omega),rfl,B [dR x,some (.bor h2),dI b,dI n,dI k,Option.map Sl.d w5,dI c,some (.d (.str (Str.ofString "way "++TX.tx n++TX.dw++TX.tx (k:Int)++TX.dw))),dI pl,some (.d (.str (Txt.join TX.sep (L.map TX.tx))))] ?_⟩
  simp only [Hh]
  refine ⟨zp.lg,?_⟩
  simp only [Hh]
  refine ⟨lb v4 zp.len (by decide),?_⟩
  simp only [Hh]
  intro H kp
  refine ⟨x,b,n,pl,k,_,rfl,Y.kpB h0 kp,a4,r4,?_⟩
  rw [ew]
  simp only [Hh]
  refine ⟨dk,dk,?_⟩
  simp only [Hh]
  show R (.rd (.bl (oH (.str (Txt.join TX.sep (L.map TX.tx))) (.str (Txt.join TX.sep (L.map TX.tx)))))) _
  rw [j8 dk]
  exact q _ (hd2.mono (by omega))
theorem Tf {a c u v:Str} (h:c.cps.toList=u.cps.toList++v.cps.toList):a++c=a++u++v:=TX.jV (by rw [TX.fJ,TX.fJ,TX.fJ,h,yt])
def S_h (cl:Addr):Bc:=λH as R=>∃(x:Addr) (b n:Int),as=[.d (.atom (.ref x)),.d (.int n)]/\Dk cl H x b/\0<=n/\n<=500/\R (.rd (.bl true)) as
theorem aeA (T:Zs K mg cs):Xc P w base 27 T.dX (S_h T.cl):=by
 have G_z:=aaO P w base T
 have Td:=Xv P w base T
 have B:=mz P w base T
 refine T.dX.F.Pq Mx (λH as R h=>?_) (λcdv A outer s H E C as R J G8 hbs hr h=>?_)
 ·obtain ⟨_,_,_,rfl,_⟩:=h;rfl
 have hu:=hr.units
 obtain ⟨x,b,n,rfl,U,n0,n1,q⟩:=h
 have h0:C.bs=[]:=lR (ds:=[.atom (.ref x),.int n]) hbs
 subst G8
 have Dn:=U
 obtain ⟨⟨dx,hx⟩,b0,b1⟩:=Dn
 have Y:=TX.bA n0 (zR n1 (by decide))
 have n6:n<=10 ^ 6:=yz n1 (by decide)
 have n40:n<=10 ^ 40:=yz n1 (by decide)
 obtain ⟨L,hL⟩:=M.SJ b0 n0
 have eL:M.the (M.Fw b n)=L:=M.eH hL λ_ h=>h.uniq hL
 have wz:=M_ b0 n40 hL
 have ll:=hL.len b0 9 (zR n1 (by decide))
 obtain ⟨G,hG⟩:=M.Z8 b0 n0
 have eG:M.the (M.Gt b (M.nd b n) n)=G:=M.eH hG λ_ h=>h.uniq hG
 have gz:=S7 b0 n0 n6 hG
 have gw:=hG.way
 have gl:=gw.len
 have aho:G.length<=L.length:=by
  rw [gl]
  have:=M.EY (b:=b) (L:=L) λy hy=>⟨(hL.all b0 y hy).1,(hL.all b0 y hy).2.1⟩
  rw [hL.sum] at this
  exact M.rM b0 this
 have es:∀ns':List Int,ns'.Perm G->ns'.Pairwise (·<=·)->ns'=G.reverse:=λns' p1 p2=>M.pC (p1.trans (List.reverse_perm G).symm) p2 (List.pairwise_reverse.mpr gw.fall)
 have er:(G.reverse.map D.int).reverse=G.map D.int:=by rw [<-xr,List.reverse_reverse]
 have ge:∀i,i<G.length->G.getD i 0<=10 ^ 40:=λi hi=>by
  have:=(jA (λy hy=>(gw.mem y hy).1) (G.getD i 0) (by rw [zj,zd hi];exact yd hi)).1
  rw [gw.sum] at this
  omega
 have u1:(Str.ofString "ways "++TX.tx n).length<=60:=la (m:=10) (by decide) Y.len
 have u2:(Str.ofString "ways "++TX.tx n++TX.dw).length<=61:=la u1 (k:=1) (by decide)
 have v1:(Str.ofString "way "++TX.tx n).length<=60:=la (m:=10) (by decide) Y.len
 have v2:(Str.ofString "way "++TX.tx n++TX.dw).length<=61:=la v1 (k:=1) (by decide)
 have zg:=TX.bA (n:=(G.length:Int)) (by omega) (by omega)
 have v3:(Str.ofString "way "++TX.tx n++TX.dw++TX.tx (G.length:Int)).length<=111:=la v2 zg.len
 obtain ⟨r3,a3⟩:=Xu (n:=n) (k:=G.length) (pl:=0) n0 n1 (by omega) (by decide) (by decide)
 rw [<-Tf (c:=Str.ofString " 0") (by decide)] at r3 a3
 obtain ⟨gf1,gf2⟩:=M.Mj n0 hG
 rw [<-gl] at gf1 gf2
 refine ⟨_,(bf (aL (i:=2) Mx.nd rfl lc (aq (aj J T.dW G_z hr.m (a1 (aq (bZ J (qv 0) T.cls T.say B hr.m T.iH (a1 (aZ qs (aH rfl T.bw (a1 (qv 1)))))))))))
    (bf (aL (i:=3) Mx.nd rfl lc (aq (aj J T.dW G_z hr.m (a1 (aq (bZ J (qv 0) T.cls T.say B hr.m T.iH (a1 (aZ qs (aH rfl T.bw (a1 (qv 1)))))))))))
    (bf (bD (PW.pt (w_or (qK J hu (Wu J rfl rfl T.aaa (a1 (qv 3))) (qv 1)) (w_or (Ec J hu (qv 3) (aq (Ju J (aq (Lf J rfl T.Mm (a1 (qv 3))))))) (iK (xK (dH J rfl T.fK (a1 (qv 3))) (dH J rfl T.fK (a1 (qv 2)))))))) (sr (jc cO (λ_=>.bl _))) aR)
    (bf (bD (Ec J hu (aq (lJ (N:=["part","desk","number","few","least","many","first"]) (k:=1) (aV.of (show gr (aa s_h) ["desk","number","few","least","many","first"] _ ["part","desk","number","few","least","many","first"] 1 from ⟨by rfl,by decide,by decide,by rfl,by decide,by decide,by decide,by decide⟩)) rfl (dD J (qv 3)) (λZ s H fp=>(dJ (i:=0) (by decide) (show List.Nodup (["part","desk","number","few","least","many","first"]:List Str) by decide) rfl (Or.inl rfl) (Or.inr rfl))) (λZ s H fp=>(JP (PW.pt (w_or (sS (qv 0) qi) (iK (d7 (fu (aq (c7 J T.fM Td hr.m (a2 (qv 1) (qv 0))))))))))) (λZ s H fp=>(qv 0)))) (aq (dG pq))) (sr (jc cO (λ_=>.bl _))) aR)
    (bf (bD (PW.pt (w_and (xK (qv 1) qi) (Jm (qK J hu (sU J hu (dH J rfl T.fK (a1 (qv 3))) qi) (aq (c7 J T.fM Td hr.m (a2 (qv 0) (qv 1)))))))) (sr (jc cO (λ_=>.bl _))) aR)
    (bf (jO zO rfl (jN rfl T.e_ (a1 (dH J rfl T.fK (a1 (qv 3))))) (aO (i:=4) Mx.nd rfl lc) (aQ (bD (qK J hu (aq (bZ J (qv 0) T.cls T.say B hr.m T.iH (a1 (aZ (aZ (aZ qs (aH rfl T.bw (a1 (qv 1)))) qs) (aH rfl T.bw (a1 (qv 4))))))) qs) (sr (jc cO (λ_=>.bl _))) aR)))
    (bf (aL (i:=5) Mx.nd rfl lc (aq (bZ J (qv 0) T.cls T.say B hr.m T.iH (a1 (aZ (aZ (aZ (aZ qs (aH rfl T.bw (a1 (qv 1)))) qs) (aH rfl T.bw (a1 (dH J rfl T.fK (a1 (qv 3)))))) qs)))))
    (bf (bD (qK J hu (qv 5) (aq (bZ J (qv 0) T.cls T.say B hr.m T.iH (a1 (aZ qs (aH rfl T.bw (a1 (qv 1)))))))) (sr (jc cO (λ_=>.bl _))) aR)
    (sr (sU J hu (aq (bZ J (qv 0) T.cls T.say B hr.m T.iH (a1 (aZ qs (aH rfl T.bw (a1 (qv 1))))))) (aq (bZ J (qv 0) T.cls T.say B hr.m T.iH (a1 (aZ (aZ qs (aH rfl T.bw (a1 (qv 1)))) qs)))))))))))))),?_⟩
 refine ak λkk O=>?_
 simp only [Hh]
 refine ⟨_,_,_,rfl,hx,h0,cF b,?_⟩
 simp only [Hh]
 refine ⟨Y.lg,?_⟩
 simp only [Hh]
 refine ⟨Dm Y (by decide),?_⟩
 simp only [Hh]
 intro H kp
 refine nO (f:="few") (bd:=10 ^ 40) (U.kp h0 kp) (by decide) (jb (by decide)) (by decide) n0 n40 ?_
 rw [Dj]
 simp only [Hh]
 rw [eL]
 refine ⟨wz,by omega,?_⟩
 simp only [Hh]
 refine O [dR x,dI n,dL L,none,none,none] ?_
 refine ak λkk O=>?_
 simp only [Hh]
 refine ⟨_,_,_,rfl,hx,h0,cF b,?_⟩
 simp only [Hh]
 refine ⟨Y.lg,?_⟩
 simp only [Hh]
 refine ⟨Dm Y (by decide),?_⟩
 simp only [Hh]
 intro H kp
 refine nO (f:="fewest") (bd:=10 ^ 6) (U.kp h0 kp) (by decide) (jb (by decide)) (by decide) n0 n6 ?_
 rw [oY]
 simp only [Hh]
 rw [eG]
 refine ⟨gz,by omega,?_⟩
 simp only [Hh]
 refine O [dR x,dI n,dL L,dL G,none,none] ?_
 refine ak λkk O=>?_
 simp only [Hh]
 show if (!(kW (.int G.sum) (.int n)))=true then _ else _
 rw [gw.sum]
 refine jB ?_
 simp only [Hh]
 refine ⟨by omega,λns' p1 p2=>?_⟩
 rw [es ns' p1 p2]
 simp only [Hh]
 rw [er]
 refine ⟨oG.ints _,oG.ints _,?_⟩
 simp only [Hh]
 refine Rq (oG.ints _) ?_
 simp only [Hh]
 refine jk (λc=>absurd c (by rw [z9,z9];omega)) (λ_=>?_)
 simp only [Hh]
 refine O [dR x,dI n,dL L,dL G,none,none] ?_
 refine ak λkk O=>?_
 simp only [S]
 refine pB (n:=(G.map D.int).length) (item:=λi=>(G.map D.int).getD i .non) (p1:=[dR x,dI n,dL L,dL G,none,none]) (λQ h=>by simp only [Hh];exact h) (by rw [z9];omega) (λ_=>false) (λ_=>.non) (λi R hi h=>?_) (λ_ _ _ z=>by cases z) ?_
 ·rw [z9] at hi
  rw [getD_ints hi] at h ⊢
  have hm:=gw.mem (G.getD i 0) (by rw [zj,zd hi];exact yd hi)
  have hn:=(gz.jD (G.getD i 0) (by rw [zj,zd hi];exact yd hi)).2
  have hle:=ge i hi
  simp only [Hh]
  refine jk (λc=>absurd hm.1 (Int.not_le.mpr c)) (λ_=>?_)
  simp only [Hh]
  refine λH kp=>⟨x,b,_,rfl,Dk.kp (C:=C.sh 1) U (by show List.map _ C.bs=[];rw [h0];rfl) kp,by omega,hle,?_⟩
  rw [hm.2]
  simp only [Hh]
  exact h
 have ef:(List.map (λ_=>D.non) (List.filter (λ_=>false) (List.range (List.map D.int G).length)))=[]:=by simp
 rw [ef]
 show oG (.lst [])/\oG (.lst [])/\if oH (.lst []) (.lst [])=false then _ else _
 refine ⟨oG.ints [],oG.ints [],?_⟩
 rw [zi (by rw [show oH (.lst []) (.lst [])=true from j8 (oG.ints [])];decide)]
 refine O _ ?_
 refine ak λkk O=>?_
 simp only [Hh]
 suffices go:kk [dR x,dI n,dL L,dL G,none,none] by
  refine jk (λc=>?_) (λ_=>go)
  simp only [Hh]
  refine λH kp=>⟨x,b,n,rfl,U.kp h0 kp,n0,n40,dZ.bl _ _,?_⟩
  simp only [Hh]
  have e1:kW (.int ((G.map D.int).length:Int)) (.int 1)=M.bG b n:=by
   have h1:=M.CT (n:=n) b0 (by omega)
   have h2:=M.CQ (n:=n) b0 (by omega)
   rw [pO,z9,gl]
   cases z:M.bG b n with
   | true=>exact zW (by have:=h1.mpr z;omega)
   | false=>exact zQ (λe=>by rw [h1.mp (by omega)] at z;cases z)
  show if (!(kW (.bl (kW (.int ((G.map D.int).length:Int)) (.int 1))) (.bl (M.bG b n))))=true then _ else _
  rw [e1]
  refine jB ?_
  exact go
 refine O _ ?_
 obtain ⟨I,hI⟩:∃I:Nat->aG->Prop,I=(λ(i:Nat) p=>∃w4:Option D,p=[dR x,dI n,dL L,dL G,Option.map Sl.d w4,none]):=⟨_,rfl⟩
 refine cj (mV (n:=G.length) (item:=λi=>.int (i:Int)) (p1:=[dR x,dI n,dL L,dL G,none,none]) (λQ h=>by
  simp only [Q]
  rw [z9]
  exact ⟨by omega,by omega,h⟩) I (by rw [hI];exact ⟨none,rfl⟩) ?_ ?_)
 ·intro i p hi hp
  rw [hI] at hp
  obtain ⟨w4,rfl⟩:=hp
  have zk:=TX.bA (n:=(i:Int)) (by omega) (by omega)
  simp only [Hh]
  refine ⟨_,_,_,rfl,hx,h0,cF b,?_⟩
  simp only [Hh]
  refine ⟨Y.lg,?_⟩
  simp only [Hh]
  refine ⟨lb (m:=10) (by decide) Y.len (by decide),?_⟩
  simp only [Hh]
  refine ⟨lb (k:=1) u1 (by decide) (by decide),?_⟩
  simp only [Hh]
  refine ⟨zk.lg,?_⟩
  simp only [Hh]
  refine ⟨lb u2 zk.len (by decide),?_⟩
  simp only [Hh]
  intro H kp
  refine Xr (U.kp h0 kp) n0 n1 (by omega) ?_
  rw [M.Ml b0 (by omega),TX.tx0]
  simp only [Hh]
  refine jB ?_
  simp only [Hh]
  show I (i+1) [dR x,dI n,dL L,dL G,dI i,none]
  rw [hI]
  exact ⟨some _,rfl⟩
 ·intro p hp
  rw [hI] at hp
  obtain ⟨w4,rfl⟩:=hp
  dsimp only
  refine ak λkk O=>?_
  simp only [Hh]
  refine ⟨_,_,_,rfl,hx,h0,cF b,?_⟩
  simp only [Hh]
  refine ⟨Y.lg,?_⟩
  simp only [Hh]
  refine ⟨lb (m:=10) (by decide) Y.len (by decide),?_⟩
  simp only [Hh]
  refine ⟨lb (k:=1) v1 (by decide) (by decide),?_⟩
  simp only [Hh]
  rw [z9]
  refine ⟨zg.lg,?_⟩
  simp only [Hh]
  refine ⟨lb v2 zg.len (by decide),?_⟩
  simp only [Hh]
  refine ⟨lb (k:=2) v3 (by decide) (by decide),?_⟩
  simp only [Hh]
  intro H kp
  refine ⟨x,b,_,_,_,rfl,U.kp h0 kp,a3,r3,⟨by decide,λe=>absurd e (by decide),λ_=>gf1⟩,?_⟩
  rw [Dl,gf2]
  simp only [Hh]
  refine O [dR x,dI n,dL L,dL G,Option.map Sl.d w4,some (.d (.str (wt G)))] ?_
  refine ak λkk O=>?_
  simp only [Hh]
  refine ⟨_,_,_,rfl,hx,h0,cF b,?_⟩
  simp only [Hh]
  refine ⟨Y.lg,?_⟩
  simp only [Hh]
  refine ⟨Dm Y (by decide),?_⟩
  simp only [Hh]
  intro H kp
  refine nO (f:="fewest") (bd:=10 ^ 6) (U.kp h0 kp) (by decide) (jb (by decide)) (by decide) n0 n6 ?_
  rw [oY]
  simp only [Hh]
  rw [eG]
  refine jB ?_
  simp only [Hh]
  refine O [dR x,dI n,dL L,dL G,Option.map Sl.d w4,some (.d (.str (wt G)))] ?_
  simp only [Hh]
  refine ⟨_,_,_,rfl,hx,h0,cF b,?_⟩
  simp only [Hh]
  refine ⟨Y.lg,?_⟩
  simp only [Hh]
  refine ⟨Dm Y (by decide),?_⟩
  simp only [Hh]
  intro H kp
  refine nO (f:="two") (bd:=10 ^ 6) (U.kp h0 kp) (by decide) (jb (by decide)) (by decide) n0 n6 ?_
  rw [Ng]
  simp only [Hh]
  refine ⟨_,_,_,rfl,hx,h0,cF b,?_⟩
  simp only [Hh]
  refine ⟨Y.lg,?_⟩
  simp only [Hh]
  refine ⟨lb (m:=10) (by decide) Y.len (by decide),?_⟩
  simp only [Hh]
  refine ⟨lb (k:=2) u1 (by decide) (by decide),?_⟩
  simp only [Hh]
  intro H kp
  have e2:Str.ofString "ways "++TX.tx n++Str.ofString " 2"=Str.ofString "ways "++TX.tx n++TX.dw++TX.tx ((2:Nat):Int):=Tf (by decide)
  show Az T.cl H [.d (.atom (.ref x)),.d (.str (Str.ofString "ways "++TX.tx n++Str.ofString " 2"))] _
  rw [e2]
  refine Xr (U.kp h0 kp) n0 n1 (by decide) ?_
  rw [<-M.tw_cg n0]
  simp only [Hh]
  show R (.rd (.bl (kW (.str (TX.tx ((M.tw b n).length:Int))) (.str (TX.tx ((M.tw b n).length:Int)))))) _
  rw [gB]
  exact q
theorem dkW {C:Pc} {W:Hp} {cl x n:Addr} {b:Int} (h:W x=some (.ins cl n [("base",.int b)])) (D:2<=b) (B:b<=36) (z:C.bs=[]) {H:Hp} (kp:Kp (C.add W) H):Dk cl H x b:=
 Dk.kp (C:=C.add W) ⟨⟨n,(iQ h:(C.add W).H0 x=_)⟩,D,B⟩ z kp
theorem aeB {n:Int} (z:2<=n) (n1:n<=36):TX.rowOf (Str.ofString "base "++TX.tx n)=some (("base":Str),[n])/\AT 50000 (Str.ofString "base "++TX.tx n):=by
 obtain ⟨r,a⟩:=nM (f:="base") (by decide) (show fits [n] [10 ^ 40] from ⟨⟨by omega,by omega,by decide⟩,trivial⟩) (by simp) (by simp)
 rw [show ("base":Str)::[n].map TX.tx=[("base":Str),TX.tx n] from rfl,<-Tc "base" (fs:=Str.ofString "base ") (TX.tx n) (by decide)] at r a
 exact ⟨r,a⟩
theorem Nq (ns:List Int) (lo hi:Option Int):cut (ns.map D.int) lo hi=(cut ns lo hi).map D.int:=by
 unfold cut
 rw [z9,<-List.map_drop,<-List.map_take]
theorem Ry {α:Type} (ns:List α) (lo hi:Option Int):(cut ns lo hi).length<=ns.length:=by
 unfold cut
 rw [yG,yM]
 omega
def su:Ei:=λW ds R=>∃ns:List Int,ds=[.vY ns]/\W=(λ_=>none)/\ns.length<=63/\∀n,R (.bl true) n
theorem Rz (T:Zs K mg cs):OkV P w base 28 T.ug su:=by
 have aeC:=Ro P w base T
 have Xx:=Rn P w base T
 have G_Y:=aen P w base T
 have Xw:=Xo P w base T
 have G_v:=aeo P w base T
 have G_e:=aeu P w base T
 have G_n:=aew P w base T
 have G_r:=aet P w base T
 have G_h:=aeA P w base T
 have G_g:=aez P w base T
 refine T.ug.F.ZG lX (λW ds R h=>?_) (λcdv A outer s H E C W ds R hbs J hr h=>?_)
 ·obtain ⟨_,rfl,_⟩:=h;rfl
 have hu:=hr.units
 obtain ⟨ns,rfl,rfl,hl,q⟩:=h
 refine ⟨_,(aU (tZ (i:=1) lX.nd rfl lc (Wh J T.mkd aeC hr.m rfl T.mC T.aap))
    (aU (q_ zO rfl (λW ok=>(dD J (aq (RX (aq (acd J (qv 0) (Jt qi) (Jt qi))) (aq (dG (a1 qi))))))) (λW ok=>(aO (i:=2) lX.nd rfl lc)) (aU (aW (λW ok=>(lE (i:=3) lX.nd rfl lc (aj J T.lY G_Y hr.m (a2 (qv 2) qi)))))
    (aU (aW (λW ok=>(aL (i:=4) lX.nd rfl lc (Pg J (aq (dG (a2 (cG qi (aq (aj J T.bC Xw hr.m (a2 (qv 3) qi)))) qi))) (BV rfl T.iY (a1 (sU J hu (aq (aj J T.bC Xw hr.m (a2 (qv 3) qi))) qi))) (λ_ _=>rfl)))))
    (aU (Ws J hu (Wg (ds0:=[]) J (λW ok=>(qv 1)) T.cls T.say Xx hr.m T.iH (λW ok=>(a1 (aZ qs (aH rfl T.bw (a1 (qv 4))))))) (ac7 (λW ok=>qs)) (d8 (aW (λW ok=>(cH (qM (jc cO (λ_=>.bl _))))))))
    (aU (aW (λW ok=>(aL (i:=5) lX.nd rfl lc (aq (aj J T.ju G_v hr.m (a2 (qv 3) (Pg J (aq (dG (cA qi (a2 qi qi)))) (aq (aj J T.bC Xw hr.m (a2 (qv 3) qi))) (λ_ _=>rfl))))))))
    (aU (aW (λW ok=>(bD (PW.pt (w_or (d7 (fu (aq (c7 J T.dm G_e hr.m (a3 (qv 1) (qv 4) (qv 5)))))) (iK (d7 (fu (aq (c7 J T.eY G_n hr.m (a2 (qv 1) (qv 5))))))))) (sr (jc cO (λ_=>.bl _))) aR)))
    (aU (aW (λW ok=>(aL (i:=6) lX.nd rfl lc (aq (aj J T.bC Xw hr.m (a2 (qv 3) qi))))))
    (aU (aW (λW ok=>(bD (PW.pt (w_or (d7 (fu (aq (c7 J T.fV G_r hr.m (a2 (qv 1) (qv 5)))))) (iK (d7 (fu (aq (c7 J T.dX G_h hr.m (a2 (qv 1) (qv 6))))))))) (sr (jc cO (λ_=>.bl _))) aR)))
    (d8 (aW (λW ok=>(bD (d7 (fu (aq (c7 J T.eX G_g hr.m (cA (qv 1) (a3 (qv 3) (qv 4) (qv 6))))))) (sr (jc cO (λ_=>.bl _))) aR))))))))))))
    (d8 (aW (λW ok=>(cH (qM (jc cO (λ_=>.bl _))))))))),?_⟩
 refine aD λY B=>?_
 simp only [R,Fj]
 refine λx0 e0 _ _ ne0=>⟨e0,aN,B _ _ ?_⟩
 clear B Y
 obtain ⟨I,hI⟩:∃I:Nat->Hp->aG->Prop,I=λ_ W p=>∃(b:Int) (w2:Option D) (w3:Option (List D)) (w4 w5 w6:Option D),W x0=some (HO.ins T.cl e0 [(Str.ofString "base",V.int b)])/\2<=b/\b<=36/\p=[some (.d (.vY ns)),dR x0,w2.map Sl.d,w3.map Sl.own,w4.map Sl.d,w5.map Sl.d,w6.map Sl.d]:=⟨_,rfl⟩
 obtain ⟨cs',hcs⟩:∃cs':List Int,cs'=cut ns (some 1) (some 10)++[0]:=⟨_,rfl⟩
 have hcl:=Ry ns (some 1) (some 10)
 refine aD λY B=>?_
 refine lO (n:=cs'.length) (item:=λi=>(cs'.map D.int).getD i .non) (p1:=_) (λQ h=>by
  simp only [Q,z9]
  rw [Nq]
  refine ⟨by rw [z9];omega,?_⟩
  rw [show (cut ns (some 1) (some 10)).map D.int++[D.int 0]=cs'.map D.int by rw [hcs,yp];rfl,z9]
  exact h) I (by rw [hI];exact ⟨10,none,none,none,none,none,aN,by decide,by decide,rfl⟩) ?_ ?_
 ·intro i W p hi hp
  rw [hI] at hp
  obtain ⟨b,w2,w3,w4,w5,w6,hw,b0,b1,rfl⟩:=hp
  rw [getD_ints hi]
  simp only [Hg]
  refine aD λY B=>?_
  simp only [R,S_Y]
  refine λh hd=>⟨by cases w3<;>rfl,B _ _ ?_⟩
  refine aD λY B=>?_
  simp only [R,Ni]
  refine ⟨_,hd,by decide,λg h1 g0 g1 hd1=>⟨_,hd1,by decide,λg' h2 _ _ hd2=>?_⟩⟩
  obtain ⟨b',hb',U,O⟩:∃b':Int,h_ [D.int (2+g),D.int 10] (if g'=0 then 1 else 0)=some (.int b')/\2<=b'/\b'<=36:=by
   by_cases c:g'=0
   ·rw [zo c];exact ⟨10,rfl,by decide,by decide⟩
   ·rw [zi c];exact ⟨2+g,rfl,by omega,by omega⟩
  refine ⟨_,hb',B _ _ ?_⟩
  clear B Y
  obtain ⟨rB,aB⟩:=aeB U O
  have zb:=TX.bA (n:=b') (by omega) (by omega)
  refine aD λY B=>?_
  simp only [R,Nh]
  refine ⟨_,_,hw,cF b,zb.lg,Dm zb (by decide),_,_,hw,aB,_,rB,U,O,Fo (kZ _),Fo (kZ _),?_⟩
  rw [j8 (Fo (kZ _)),zo rfl]
  refine B _ _ ?_
  clear B Y
  have Z:upd W x0 (HO.ins T.cl e0 [(Str.ofString "base",V.int b')]) x0=some (HO.ins T.cl e0 [(Str.ofString "base",V.int b')]):=aN
  generalize upd W x0 (HO.ins T.cl e0 [(Str.ofString "base",V.int b')])=W' at Z ⊢
  refine aD λY B=>?_
  simp only [R,Ni,S_v]
  refine ⟨_,hd2,by decide,λg3 h3 p0 p1 hd3=>?_⟩
  obtain ⟨z,hz,z1,z2⟩:∃z:Nat,h_ [D.int 3,D.int 20,D.int 40] g3=some (.int (z:Int))/\1<=z/\z<=40:=by
   have:g3=0\/g3=1\/g3=2:=by omega
   rcases this with rfl|rfl|rfl
   ·exact ⟨3,rfl,by decide,by decide⟩
   ·exact ⟨20,rfl,by decide,by decide⟩
   ·exact ⟨40,rfl,by decide,by decide⟩
  refine ⟨_,hz,_,z,rfl,hd3,by decide,z1,z2,λn h4 n0 n1 hd4=>B _ _ ?_⟩
  clear B Y
  have n40:n<=10 ^ 40:=yz n1 (pow10 z2)
  refine aD λY B=>?_
  simp only [R,S_e,S_n]
  refine λH kp=>⟨dkW Z U O hbs kp,n0,by omega,λH kp=>⟨b',dkW Z U O hbs kp,n0,by omega,B _ _ ?_⟩⟩
  clear B Y
  refine aD λY B=>?_
  simp only [R,Ni]
  refine ⟨_,hd4,by omega,λsm h5 s0 s1 hd5=>B _ _ ?_⟩
  clear B Y
  refine aD λY B=>?_
  simp only [R,S_r,S_h]
  refine λH kp=>⟨b',dkW Z U O hbs kp,n0,by omega,λH kp=>⟨b',dkW Z U O hbs kp,s0,by omega,B _ _ ?_⟩⟩
  clear B Y
  simp only [R,S_g]
  refine λH kp=>⟨dkW Z U O hbs kp,_,hd5,by omega,s0,by omega,λh6 _=>?_⟩
  rw [hI]
  exact ⟨b',some _,some _,some _,some _,some _,Z,U,O,rfl⟩
 ·intro W p hp
  rw [hI] at hp
  obtain ⟨b,w2,w3,w4,w5,w6,hw,b0,b1,rfl⟩:=hp
  refine B _ _ ?_
  simp only [Q]
  exact q W
end
theorem Nr {K:PySem.W.Frag} {H:Hp} {a:Addr} {ns:List Int} {E:XK} (B:ns.length<=63) (D:iI K H a (ns.map V.int)):Hf K su [.ref a] H (λv _=>v=.bl true) E:=
 ⟨λ_=>none,[.vY ns],H,λr _=>r=.bl true,aM.refl _,(λa o z=>by cases z),.cons (.vY D) .nil,⟨ns,rfl,rfl,B,λ_=>rfl⟩,λr v I J H' po n=>by
  subst n
  have h:=po.res
  cases h
  rfl⟩
@[elab_as_elim] theorem QD {α:Type} {C:List α->Prop} (us:List α) (n:us.length=1) (h:∀x0:α,C [x0]):C us:=match us,n,h with | [x0],_,h=>h x0
@[elab_as_elim] theorem aaX {α:Type} {C:List α->Prop} (us:List α) (n:us.length=2) (h:∀x0 x1:α,C [x0,x1]):C us:=match us,n,h with | [x0,x1],_,h=>h x0 x1
@[elab_as_elim] theorem aeD {α:Type} {C:List α->Prop} (us:List α) (n:us.length=3) (h:∀x0 x1 x2:α,C [x0,x1,x2]):C us:=match us,n,h with | [x0,x1,x2],_,h=>h x0 x1 x2
@[elab_as_elim] theorem aeE {α:Type} {C:List α->Prop} (us:List α) (n:us.length=4) (h:∀x0 x1 x2 x3:α,C [x0,x1,x2,x3]):C us:=match us,n,h with | [x0,x1,x2,x3],_,h=>h x0 x1 x2 x3
section
variable {K:PySem.W.Frag} {h:Heap} {mg:Str->Option Value} (X:K.In h) (G:h.Ns mainGlobals mg)
abbrev az {x:Str} {st:Stmt} {ps:List Str} {f:Addr} {O:Value} {J I:Option Addr} {D:Array (Option Value)} {kV z B n ct:Value} (a:PySem.W.nsIn K mainGlobals x=some (some (.ref f))) (l:K.lookup f=some ⟨O,J,.func (PySem.W.fnOf x x (j6 st) (cY st) (aa st) .none kV z B I n ct),D⟩) (c:PySem.W.codeIn K n x=true) (k:PySem.W.keepIn K (.ref f)=true)
  (b:∀(kV z B:Value) (I:Option Addr) (n ct:Value) (us:List Value),us.length=ps.length->bindArgs (PySem.W.fnOf x x (j6 st) (cY st) (aa st) .none kV z B I n ct) ⟨us,[]⟩=pure (ps.zip us):=by first|exact λ_ _ _ _ _ _ us hl=>K49.QD us hl λ_=>rfl|exact λ_ _ _ _ _ _ us hl=>K49.aaX us hl λ_ _=>rfl|exact λ_ _ _ _ _ _ us hl=>K49.aeD us hl λ_ _ _=>rfl|exact λ_ _ _ _ _ _ us hl=>K49.aeE us hl λ_ _ _ _=>rfl):aF K mg x st ps:=⟨f,_,lC l c k,PySem.W.mg_of X G a,(lC (st:=st) l c k).binds b⟩
theorem n1 (X:K.In h) (G:h.Ns mainGlobals mg) {x:Str} {v:Value} (a:PySem.W.nsIn K mainGlobals x=some (some v)):mg x=some v:=PySem.W.mg_of X G a
theorem n2 (X:K.In h) (G:h.Ns mainGlobals mg) {x:Str} {i:Int} {t:Tok} (a:PySem.W.nsIn K mainGlobals x=some (some (.int i t))):∃t,mg x=some (.int i t):=⟨t,PySem.W.mg_of X G a⟩
theorem n3 (X:K.In h) (G:h.Ns mainGlobals mg) {x y:Str} {t:Tok} (a:PySem.W.nsIn K mainGlobals x=some (some (.str y t))):∃t,mg x=some (.str y t):=⟨t,PySem.W.mg_of X G a⟩
abbrev kO (K:PySem.W.Frag) (u v:Value) (b:Bool):Prop:=PySem.W.kitOne K u v=some b
theorem Tg {a0:Addr} (h0:DP K mg "NoPlace" a0) (n:PySem.W.subIn K (.ref a0) (.ref a0)=some true):XT K mg ⟨a0⟩:=⟨h0,n⟩
theorem pJ {a:Addr} {B:Option Addr} {sl:Array (Option Value)} {n:Nat} {a1 n1:Int} {z:Tok} (l:K.lookup a=some ⟨.type "tuple",B,.seq #[.int a1 z] n,sl⟩) (D:a1=n1):NB K a [n1]:=⟨_,_,_,l,rfl,rfl,(by show 1<=sizeLine;decide),D▸.cons ⟨_,rfl⟩ .nil⟩
theorem aaY {a:Addr} {D:Option Addr} {sl:Array (Option Value)} {n:Nat} {a1 n1 a2 n2:Int} {B z:Tok} (l:K.lookup a=some ⟨.type "tuple",D,.seq #[.int a1 B,.int a2 z] n,sl⟩) (J:a1=n1) (I:a2=n2):NB K a [n1,n2]:=⟨_,_,_,l,rfl,rfl,(by show 2<=sizeLine;decide),J▸I▸.cons ⟨_,rfl⟩ (.cons ⟨_,rfl⟩ .nil)⟩
theorem aaZ {a:Addr} {I:Option Addr} {sl:Array (Option Value)} {n:Nat} {a1 n1 a2 n2 a3 n3:Int} {D B z:Tok} (l:K.lookup a=some ⟨.type "tuple",I,.seq #[.int a1 D,.int a2 B,.int a3 z] n,sl⟩) (U:a1=n1) (O:a2=n2) (J:a3=n3):NB K a [n1,n2,n3]:=⟨_,_,_,l,rfl,rfl,(by show 3<=sizeLine;decide),U▸O▸J▸.cons ⟨_,rfl⟩ (.cons ⟨_,rfl⟩ (.cons ⟨_,rfl⟩ .nil))⟩
theorem Dp {a:Addr} {es:Array DictEntry} {n:Nat} {T:List (Str × Addr)} (l:K.lookup a=some ⟨.type "dict",none,.dict es n,#[]⟩) (lo:(a == sysModules)=false) (r:PyProof.Rows.KTD.Rows (λd v=>v=Value.ref d) es.toList T):KTb K a T:=⟨lo,_,_,_,l,⟨rfl,rfl,rfl⟩,rfl,r⟩
end
theorem fin {l:PySem.W.OpenLaw} {w:World} {K:PySem.W.Frag} {mg:Str->Option Value} {cs:XA} {z:Addr} (n:mg "law"=some (.ref z)) (T:Zs K mg cs):∃fd:FuncData,(∀(s:Shared) (v:Value),BindsTo s fd ⟨[v],[]⟩ [("script",v)])/\∀base:Heap,K.In base->base.Ns mainGlobals mg->bO l.prog w K mg base lB 28 z fd ["script"] (Hf K su):=by
 obtain ⟨_,_,kV,B,I,J,D,ct,_,e,_,_⟩:=T.ug.F.ex
 have e2:z=T.ug.f:=Value.ref.inj (yl (n.symm.trans T.ug.m))
 subst e2
 refine ⟨T.ug.fd,λs v=>?_,λbase _ _=>Rz _ _ _ T⟩
 rw [e]
 exact .of_eq rfl
theorem walk {l:PySem.W.OpenLaw} {q:Program} {B:List Str} {Z:(Str->Option Value)->Heap->Prop} {I:World->Heap->Prop} {d:DefRec} {K:Params->PySem.W.Frag} (J:l.most=some 63) (D:d.params.defaults=[])
  (U:∀(w:World) (h:Heap),I w h->(K w.params).In h)
  (F:∀(w:World) (mg:Str->Option Value) (fa:Addr) (h:Heap),(K w.params).In h->h.Ns mainGlobals mg->mg d.name=some (.ref fa)->
   ∃fd:FuncData,(∀(s:Shared) (u:Value),BindsTo s fd ⟨[u],[]⟩ [("script",u)])/\∀base:Heap,(K w.params).In base->base.Ns mainGlobals mg->bO l.prog w (K w.params) mg base lB 28 fa fd ["script"] (Hf (K w.params) su)) :
  PySem.W.WalkO q B Z I l.row.toRowW d [] (λf vs=>PySem.call f vs):=
 L2.Dw (n:=63) (k:=28) (x:="script") (CX:=λ_=>lB) (sp:=λw=>Hf (K w.params) su) J (by decide) D ⟨rfl,by decide,by decide,rfl⟩ U F (λ_ _ a ns O _ Y=>Nr O Y) λ_ _ _ _ _ z=>z
end K49
namespace PySem.W.Fast
def tw6802566876263389230:=()
def tw15407419840470000181:=()
def tw156239225927435826:=()
def tw9164125250350665232:=()
def tw1627516140597753404:=()
def tw11984745595920332268:=()
def tw2202645047707621830:=()
def tw17852937021027502499:=()
def tw7744142708718312918:=()
def tw9161442201325925803:=()
def tw8615352472350705078:=()
def tw11306793547429278141:=()
def tw16890948232007867244:=()
def tw14925247540063802123:=()
def tw13289166597591039709:=()
def tw5943162989181434440:=()
def tw11167261807698717750:=()
def tw16903311437715375092:=()
def tw10145550394554052289:=()
def tw5632313973043778731:=()
def tw15590231811788576954:=()
def tw10049669102972682500:=()
def tw170546986295953028:=()
def tw3248915073254720001:=()
def tw1468148151091347182:=()
def tw16585553081216391688:=()
def tw5287597736660125690:=()
def tw17978884632128269984:=()
def tw16911711655707716995:=()
def tw850819132557061847:=()
def tw16043656347537555146:=()
def tw5740577705237710114:=()
def tw9944292608064321153:=()
def tw3863814381030831668:=()
def tw6489157406769801143:=()
def tw18132010573542142686:=()
def tw11486099732814357746:=()
def tw12288336028168703270:=()
def tw14162638874309205129:=()
def tw9396190429018945017:=()
def tw12687025234738741096:=()
def tw1040688503110897282:=()
def tw5787002600070583972:=()
def tw2938039311975011111:=()
def tw16838566234681621429:=()
def tw445398081350653705:=()
def tw14488892523587139033:=()
def tw3512195723659520986:=()
def tw14848873891124649386:=()
def tw757478370737240409:=()
def tw16108769316429193115:=()
def tw18260657843227285254:=()
def tw4502195012043461993:=()
def tw14007365843272969000:=()
def tw490171826958728298:=()
def tw5093215742799403051:=()
def tw852357336948111566:=()
def tw15028258251457262546:=()
def tw7104416203718129039:=()
def tw12671287862074744877:=()
def tw3168499045693217269:=()
def tw6005844908687842779:=()
def tw3588682082711843519:=()
def tw2561656467479565467:=()
def tw16541545627933834243:=()
def tw17971164495282696362:=()
def tw7506561049198900272:=()
def tw13436064317257733787:=()
def tw1542821731323801021:=()
def tw9021221550792847713:=()
def tw13579225437367946661:=()
def tw9167546670983103647:=()
def tw6934259917522374619:=()
def tw12142679022542992943:=()
def tw4583759889020304524:=()
def tw16663022536539298105:=()
def tw16178931848050138702:=()
def tw14500513488202676080:=()
def tw15667272069078045459:=()
def tw9769524632501337468:=()
def tw9749755360200575556:=()
def tw14163910653312042983:=()
def tw14114638165207212044:=()
def tw16596664826592523691:=()
def tw5916322871066981356:=()
def tw1037403248002429633:=()
def tw5474779757447537523:=()
def tw16440506005262097493:=()
def tw18190232305081709690:=()
def tw3725810478033772776:=()
def tw4286423189977644239:=()
def tw17272182675679875792:=()
def tw3194638176165131355:=()
def tw9299998870007423987:=()
def tw13659169051596256058:=()
def tw7641685605156960996:=()
def tw1363324009269885035:=()
def tw18318530334124745094:=()
def tw4316455763429771310:=()
def tw16207756539256303645:=()
def tw16333875354588161907:=()
def tw1170320619107457057:=()
def tw11352301163543283084:=()
def tw6620590160842298890:=()
def tw17739821738567832333:=()
def tw16507158713173811733:=()
def tw129874236218837290:=()
def tw12694260236647263844:=()
def tw9099840337589836140:=()
def tw16062711953091529245:=()
def tw6746500778916430592:=()
def tw17132750098359744968:=()
def tw2260781778150818885:=()
def tw15036719955270230782:=()
def tw11651375551998400861:=()
def tw7451568602832916978:=()
def tw10087239400065649514:=()
def tw14473093466725048732:=()
def tw4965165009033027984:=()
def tw13395361209041941965:=()
def tw12161554770989722183:=()
def tw965175464840799456:=()
def tw5217863847100881459:=()
def tw12494122862955309136:=()
def tw14497508623823361182:=()
def tw821776343519297303:=()
def tw4854026578087178014:=()
def tw5519479015872839031:=()
def tw16292339184939324115:=()
def tw11587018452671691084:=()
def tw10635070777192170669:=()
def tw10390218785875918877:=()
def tw4158914657953781992:=()
def tw4284406687565300387:=()
def tw15599482460261486982:=()
def tw8051142560083915659:=()
def tw12654905260559876195:=()
def tw14736737768058584201:=()
def tw6727171845377120923:=()
def tw226517832279736598:=()
def tw7331435965721603294:=()
def tw17101956994349810997:=()
def tw4052498496072350262:=()
def tw6418804458463918348:=()
def tw14884176078258885344:=()
def tw3319066320502032432:=()
def tw7227264167815835245:=()
def tw17096338989945109564:=()
def tw5818910699545593420:=()
def tw8733897413760750851:=()
def tw4868615778754343080:=()
def tw11540105881268959685:=()
def tw232422268975985876:=()
def tw5152526724069423251:=()
def tw15408364203256625435:=()
def tw16667660043281371335:=()
def tw15006482305245446270:=()
def tw7453329107548705087:=()
def tw6433284966914833644:=()
def tw18140193077038114950:=()
def tw1127581115984583643:=()
def tw14299309971236014861:=()
def tw5488293532278190525:=()
def tw17777157120298476969:=()
def tw7712711638301764017:=()
def tw8188284061293273521:=()
def tw11856649824569385525:=()
def tw1294277427203301565:=()
def tw17052109451262627725:=()
def tw9450568317381636532:=()
def tw10644215891333743676:=()
def tw2828099143817109724:=()
def tw3812524467945270482:=()
def tw856642528808460729:=()
def tw9675145146117816181:=()
def tw3281738289030784525:=()
def tw13827625834922215082:=()
def tw3872517730663426214:=()
def tw8508975429110460589:=()
def tw9153705825435834797:=()
def tw13350226481858270529:=()
def tw3391733691086703035:=()
def tw3307723555393485851:=()
def tw3505398298939274947:=()
def tw18123344360541551745:=()
def tw1171682122666648827:=()
def tw11040505735848308590:=()
def tw14266975050336284095:=()
def tw13523604812018614600:=()
def tw12040635862897744260:=()
def tw4853705896571419759:=()
def tw6619976315638339205:=()
def tw12232969209271971663:=()
def tw8156018146985773364:=()
def tw3095216498699205805:=()
def tw1228783842349398268:=()
def tw17631925137735907488:=()
def tw1411299137142332555:=()
def tw16318685819581220748:=()
def tw15004175652368765769:=()
def tw9284703468821152165:=()
def tw1509853125979364522:=()
def tw3172718413698496347:=()
def tw18199875639486053816:=()
def tw8604385538825707122:=()
def tw174768347200559862:=()
def tw3259610125856599975:=()
def tw1781468438790184257:=()
def tw14652621188490830038:=()
def tw1451162704516238795:=()
def tw5179424913748496482:=()
def tw9924356832042426853:=()
def tw15405393625725710487:=()
def tw11368740496484363733:=()
def tw15815063521922138311:=()
def tw11879881128000670502:=()
def tw6440418802083805867:=()
def tw15163019301147380811:=()
def tw12013759148393261736:=()
def tw8312714850466826061:=()
def tw7080333224949889688:=()
def tw852800352872992541:=()
def tw8331727648711230065:=()
def tw8280039088164000756:=()
def tw3846348832143396559:=()
def tw9973612423094512402:=()
def tw17593201856318217258:=()
def tw1628386050473033961:=()
def tw10356444584329637724:=()
def tw3671575864557683007:=()
def tw16802835869041825081:=()
def tw4920785403003430796:=()
def tw10124055613658379576:=()
def tw311144236015406797:=()
def tw404437092371639708:=()
def tw3609759984329618535:=()
def tw12816843813412234017:=()
def tw3362927563945648386:=()
def tw8247733499371486903:=()
def tw14950204924958859467:=()
def tw17538062391459689281:=()
def tw13032670692169548397:=()
def tw14375813021838977400:=()
def tw3533169993751908937:=()
def tw10749637843702886286:=()
def tw8820755436130416746:=()
def tw11162500078857607233:=()
def tw10761156996489481372:=()
def tw13369337707121348983:=()
def tw11498428267448638768:=()
def tw16017524269292041176:=()
def tw10125596562269461042:=()
def tw15500157602823545400:=()
def tw7574033424008442141:=()
def tw16664309597965547350:=()
def tw5351702479403318290:=()
def tw3637442391089669791:=()
def tw14667140030511944472:=()
def tw11065864901788836836:=()
def tw11749874427967913893:=()
def tw11164318764441559839:=()
def tw13957648885613354748:=()
def tw8009393881689488852:=()
def tw17034261768340721080:=()
def tw10911379290216169110:=()
def tw4915765755358016666:=()
def tw5575171964083216280:=()
def tw3994430974785034539:=()
def tw5212018344459872640:=()
def tw7921958598732654360:=()
def tw8643721505075057924:=()
def tw14617691810171774010:=()
def tw7941076955246713267:=()
def tw6385855114841179411:=()
def tw3552929406891862565:=()
def tw12992432273707104986:=()
def tw2460736734411144020:=()
def tw893181564047067001:=()
def tw5781485664670305158:=()
def tw7094002640824315457:=()
def tw14171951202371750949:=()
def tw549134575499641176:=()
def tw17213540129255203550:=()
def tw10375653990052757692:=()
def tw4013143077108121835:=()
def tw10255182345858948961:=()
def tw7755050912125881389:=()
def tw2910840778937630847:=()
def tw1999925274202344406:=()
def tw17224796354258322157:=()
def tw7729974188193520507:=()
def tw10801885594864056167:=()
def tw10070068118738120149:=()
def tw2026119640221586353:=()
def tw15712984550942869246:=()
def tw17324052778358912063:=()
def tw6126938094621914110:=()
def tw8499756726586129860:=()
def tw8335861698732204984:=()
def tw1371914800338521619:=()
def tw9566137145195625035:=()
def tw9069977982398769229:=()
def tw15623770482562337876:=()
def tw12465374559581814596:=()
def tw15085912468827029680:=()
def tw5306132667945431013:=()
def tw6643584695547985872:=()
def tw9784873455958875334:=()
def tw17668825177907779489:=()
def tw17198065823798045365:=()
def tw15583705696488830655:=()
def tw15019946794882590390:=()
def tw2659036012795177081:=()
def tw10753538109874164764:=()
def tw6897470555713707784:=()
def tw807728206451731478:=()
def tw15411947618202941586:=()
def tw8662788175400601687:=()
def tw2557629296861583203:=()
def tw12547764243245655583:=()
def tw1150428324475853875:=()
def tw17211068627546502486:=()
def tw2415489348485875258:=()
def tw5487375105221974398:=()
def tw18191095103673915634:=()
def tw4847482198235204291:=()
def tw7559447654642516670:=()
def tw9312375625857469810:=()
def tw15927277918900558104:=()
def tw13436270709622211336:=()
def tw5540016950125085116:=()
def tw18389281466158235304:=()
def tw12499526350389327387:=()
def tw15620098833430222177:=()
def tw7154411211996107226:=()
def tw4765762442181618841:=()
def tw18282995379726087087:=()
def tw12174958434242162759:=()
def tw9398896691805132360:=()
def tw1465651303737845749:=()
def tw11841634942317562475:=()
def tw3843989698260123569:=()
def tw6447984262092722088:=()
def tw558581891341535745:=()
def tw12003950271077064749:=()
def tw16687145871815621517:=()
def tw12893954743099662932:=()
def tw13219587028618047127:=()
def tw2213032732749293279:=()
def tw2374334300653072992:=()
def tw11638634287423154739:=()
def tw9817866429080265325:=()
def tw14904100053346499460:=()
def tw2051651968169780462:=()
def tw8907362292285091210:=()
def tw2641796774044087716:=()
def tw9593755980349632645:=()
def tw12852251843655909206:=()
def tw17076114236109313688:=()
def tw12744332796929826887:=()
def tw14112801776793795980:=()
def tw4334659915943186292:=()
def tw12009032868896107875:=()
def tw14443945794913725616:=()
def tw12317071479831429136:=()
def tw2510823850717326364:=()
def tw12449420237900149017:=()
def tw2955976351480463299:=()
def tw7584587639411347540:=()
def tw4918024249144855978:=()
def tw17815337120850590284:=()
def tw5468473265062231042:=()
def tw4316589192044287918:=()
def tw2908735413816974357:=()
def tw13870549988159359269:=()
def tw13997279367033792265:=()
def tw4066756181958883876:=()
def tw6869717294828670117:=()
def tw17175781617862143833:=()
def tw6184199202993875626:=()
def tw14850820455020793018:=()
def tw12189584269838507954:=()
def tw16704157575971404533:=()
def tw10698592574312717479:=()
def tw11071222231344329256:=()
def tw864864193613970829:=()
def tw13142720024371122357:=()
def tw9387975265704463905:=()
def tw8709942488417369056:=()
def tw13522911420946258723:=()
def tw10765603223248120766:=()
def tw991111581345783958:=()
def tw16301262664461062019:=()
def tw884657925291850854:=()
def tw12237129521046148168:=()
def tw18118107759999438427:=()
def tw16814803446273137422:=()
def tw1445928941917165726:=()
def tw9601980015590632018:=()
def tw3107204150546970469:=()
def tw1476872205802322400:=()
def tw1424695166305080182:=()
def tw5683022607118413995:=()
def tw7549042403607399218:=()
def tw15375044162651524800:=()
def tw621703100613201721:=()
def tw18287385079336977231:=()
def tw17424732279984909893:=()
def tw16482123277916450076:=()
def tw9344972198253453563:=()
def tw1985468559519380015:=()
def tw16454707557516463949:=()
def tw16553040950441236735:=()
def tw5857505513493739968:=()
def tw3607015260025883035:=()
def tw1750933062946190954:=()
def tw13708374148374543461:=()
def tw8135990274762445816:=()
def tw16062031677155876816:=()
def tw4056987811711833240:=()
def tw16048606526530863108:=()
def tw12962262225146079452:=()
def tw11033086060811026991:=()
def tw14989530583515456042:=()
def tw1751778864034698927:=()
def tw6759399338534460450:=()
def tw7136516930738032961:=()
def tw10833070867001624638:=()
def tw6805830319895987739:=()
def tw6522778804034037606:=()
def tw15320957671056929358:=()
def tw474730029850556995:=()
def tw10906236734084158273:=()
def tw5995700428319955757:=()
def tw6661635876817836979:=()
def tw408071745827633533:=()
def tw4402440855551894744:=()
def tw5139669502519199304:=()
def tw11578445061004037800:=()
def tw381863500165762188:=()
def tw14616310360389435381:=()
def tw480767095098769651:=()
def tw6841163441034888325:=()
def tw15852384150971905850:=()
def tw9973842132162318525:=()
def tw13846793593841957144:=()
def tw15000737102468629141:=()
def tw4672111624755428000:=()
def tw3162009651098655744:=()
def tw16670276898916075928:=()
def tw4619342778116754214:=()
def tw7878829029334021321:=()
def tw3747965158003778517:=()
def tw5321731167096910194:=()
def tw1424510740401388754:=()
def tw11996723038437611039:=()
def tw7932125280133936817:=()
def tw15269873250557336297:=()
def tw9736250400941128757:=()
def tw15269378211942948805:=()
def tw4289276410643540598:=()
def tw11212216475658322693:=()
def tw14223869554285427285:=()
def tw3153289001150682260:=()
def tw6032421430218321403:=()
def tw18082420348735904340:=()
def tw2887797528266130311:=()
def tw12845910138404343884:=()
def tw11518772309985313104:=()
def tw9215060061426542756:=()
def tw16821894178569139674:=()
def tw1160774749387046593:=()
def tw1102980786458497594:=()
def tw815790533284588740:=()
def tw5719084799481336282:=()
def tw11903558693114400546:=()
def tw6128975733366140227:=()
def tw9377957372900945102:=()
end PySem.W.Fast
open PySem PySem.W PyProof.Rows
open K49 (Tg az n1 n2 n3 pJ aaY aaZ Dp)
open L2 (lC J_ Eh uW P_ V7)
set_option maxRecDepth 100000 in
set_option maxHeartbeats 0 in
theorem PySem.Challenge.cw_mirrorsums_k49_whole_by_the_desk_holds : PySem.Challenge.rw_mirrorsums_k49_whole_by_the_desk.Holds := by
 w_on;o_law;k_head;(case hw=>w_witness2)
 k_fill
 refine K49.walk (l:=PySem.Challenge.rw_mirrorsums_k49_whole_by_the_desk) rfl rfl (λw h Y=>PySem.W.kIn_of Y) ?F
 case F=>
  intro w mg fa h KX G hmg
  refine' K49.fin hmg ⟨⟨yY KX G ?_,yY KX G ?_,yY KX G ?_,yY KX G ?_,yY KX G ?_,yY KX G ?_,yY KX G ?_,yY KX G ?_,yY KX G ?_,yY KX G ?_,yY KX G ?_,yY KX G ?_,yY KX G ?_,n2 KX G ?_,n2 KX G ?_,n2 KX G ?_,n2 KX G ?_,n3 KX G ?_,n3 KX G ?_⟩,Tg ⟨n1 KX G ?_,Eh ?l1 (uW ?d1 ?o1) ?i1 ?l (uW ?d ?o) ?i⟩ ?_,az KX G ?_ ?_ ?_ ?_,az KX G ?_ ?_ ?_ ?_,az KX G ?_ ?_ ?_ ?_,az KX G ?_ ?_ ?_ ?_,az KX G ?_ ?_ ?_ ?_,az KX G ?_ ?_ ?_ ?_,az KX G ?_ ?_ ?_ ?_,az KX G ?_ ?_ ?_ ?_,az KX G ?_ ?_ ?_ ?_,az KX G ?_ ?_ ?_ ?_,az KX G ?_ ?_ ?_ ?_,az KX G ?_ ?_ ?_ ?_,az KX G ?_ ?_ ?_ ?_,az KX G ?_ ?_ ?_ ?_,az KX G ?_ ?_ ?_ ?_,az KX G ?_ ?_ ?_ ?_,az KX G ?_ ?_ ?_ ?_,az KX G ?_ ?_ ?_ ?_,az KX G ?_ ?_ ?_ ?_,az KX G ?_ ?_ ?_ ?_,az KX G ?_ ?_ ?_ ?_,az KX G ?_ ?_ ?_ ?_,az KX G ?_ ?_ ?_ ?_,az KX G ?_ ?_ ?_ ?_,az KX G ?_ ?_ ?_ ?_,az KX G ?_ ?_ ?_ ?_,az KX G ?_ ?_ ?_ ?_,az KX G ?_ ?_ ?_ ?_,az KX G ?_ ?_ ?_ ?_,az KX G ?_ ?_ ?_ ?_,az KX G ?_ ?_ ?_ ?_,az KX G ?_ ?_ ?_ ?_,az KX G ?_ ?_ ?_ ?_,az KX G ?_ ?_ ?_ ?_,az KX G ?_ ?_ ?_ ?_,az KX G ?_ ?_ ?_ ?_,az KX G ?_ ?_ ?_ ?_,az KX G ?_ ?_ ?_ ?_,az KX G ?_ ?_ ?_ ?_,az KX G ?_ ?_ ?_ ?_,az KX G ?_ ?_ ?_ ?_,az KX G ?_ ?_ ?_ ?_,az KX G ?_ ?_ ?_ ?_,az KX G ?_ ?_ ?_ ?_,az KX G ?_ ?_ ?_ ?_,az KX G ?_ ?_ ?_ ?_,az KX G ?_ ?_ ?_ ?_,az KX G ?_ ?_ ?_ ?_,az KX G ?_ ?_ ?_ ?_,az KX G ?_ ?_ ?_ ?_,az KX G ?_ ?_ ?_ ?_,az KX G ?_ ?_ ?_ ?_,az KX G ?_ ?_ ?_ ?_,az KX G ?_ ?_ ?_ ?_,az KX G ?_ ?_ ?_ ?_,az KX G ?_ ?_ ?_ ?_,az KX G ?_ ?_ ?_ ?_,?aB,?tB,n1 KX G ?_,Dp ?lB ?oB ?rB,?bB,?aA,n1 KX G ?_,Dp ?lA ?oA ?rA,?cl,n1 KX G ?_,⟨?_,?_,?_,?_⟩,?cna,?fsay,⟨?_,?_,?_⟩,?fdsay,lC ?sl ?sc ?sk,(lC (st:=K49.Mv) ?sl ?sc ?sk).binds (λ_ _ _ _ _ _ us hl=>K49.aaX us hl λ_ _=>rfl),?fini,⟨?_,?_,?_,?_⟩,?fdini,lC ?il ?ic ?ik,(lC (st:=K49.W_) ?il ?ic ?ik).binds (λ_ _ _ _ _ _ us hl=>K49.QD us hl λ_=>rfl)⟩
  any_goals (show _=_;k_is)
  any_goals (show (_ == _)=_;decide)
  case rB=>exact .cons rfl rfl (.cons rfl rfl (.cons rfl rfl (.cons rfl rfl (.cons rfl rfl (.cons rfl rfl (.cons rfl rfl (.cons rfl rfl (.cons rfl rfl (.cons rfl rfl (.cons rfl rfl (.cons rfl rfl (.cons rfl rfl .nil))))))))))))
  case rA=>exact .cons rfl rfl (.cons rfl rfl (.cons rfl rfl (.cons rfl rfl (.cons rfl rfl (.cons rfl rfl (.cons rfl rfl (.cons rfl rfl (.cons rfl rfl (.cons rfl rfl (.cons rfl rfl (.cons rfl rfl .nil)))))))))))
  case bB=>(refine' .cons (pJ ?_ ?_) (.cons (pJ ?_ ?_) (.cons (pJ ?_ ?_) (.cons (pJ ?_ ?_) (.cons (pJ ?_ ?_) (.cons (pJ ?_ ?_) (.cons (pJ ?_ ?_) (.cons (pJ ?_ ?_) (.cons (pJ ?_ ?_) (.cons (pJ ?_ ?_) (.cons (pJ ?_ ?_) (.cons (aaY ?_ ?_ ?_) (.cons (aaZ ?_ ?_ ?_ ?_) .nil))))))))))))<;>(try first|k_is|rfl|decide))
  try (case cna=>(unfold L2.g_;k_is))
  all_goals first|rfl|k_is
