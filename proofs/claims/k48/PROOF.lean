import PyProof.Rows.All
import Wide.All
import OpenK.AllK
import PySem.Challenge.RW_liftwave_k48_spoiled_texts
open Array(length_toList size_append)
open Bool(and_eq_true false_eq_true not_eq_true' or_eq_true)
open Int(ediv_one emod_lt_of_pos emod_nonneg mul_assoc mul_left_comm mul_nonneg mul_one neg_le_neg neg_mul neg_neg one_mul toNat_natCast toNat_of_nonneg zero_add)
open List(all_cons all_eq_true all_map any_eq_true append_assoc append_inj' append_nil cons_append contains_eq_mem dropLast_concat drop_length drop_zero ext_getElem? filterMap_cons filterMap_cons_some filterMap_map flatMap_cons foldl_append foldl_cons forall_mem_append forall_mem_cons forall_mem_singleton getD_eq_getElem?_getD getElem?_append_left getElem?_append_right getElem?_cons_succ getElem?_eq_getElem getElem?_eq_none getElem?_map getElem?_reverse getElem?_set getElem?_set_ne getElem?_set_self getElem_mem getLastD_concat length_append length_cons length_drop length_map length_nil length_range length_replicate length_reverse length_set length_singleton length_take length_zip lookup_cons map_append map_congr_left map_cons map_drop map_id map_map map_nil map_reverse map_take mem_append mem_append_left mem_append_right mem_cons mem_cons_of_mem mem_cons_self mem_filter mem_filterMap mem_map mem_of_getElem? mem_of_mem_take mem_range mem_replicate mem_singleton nodup_append nodup_cons nodup_nil not_mem_nil of_mem_zip range_succ replicate_succ reverse_append reverse_cons set_cons_succ set_cons_zero size_toArray sum_append sum_cons take_add_one take_append_drop take_length take_of_length_le zip_cons_cons)
open Nat(add_le_add le_of_lt le_succ le_trans lt_irrefl lt_of_lt_of_le lt_or_ge min_self mul_add mul_le_mul mul_mod_left mul_pos ne_of_gt ne_of_lt pow_pos pow_succ succ_mul zero_le zero_mul)
open Option(getD_none map_some)
open PySem(boot_len)
open PySem.F(excBase_ValueError plainAttrs_list plainAttrs_str slot_list_pop slot_str_join slot_str_split type_list_pop type_str_join type_str_split)
open PySem.Heap(get?_push_of_some get?_push_size get?_update_other get?_update_self lt_size size_push)
open PySem.W(Frag KeysLit binds_K callWith_K codeIn emptyDict excIn exmOne fnOf handedIn instObj isFn keepIn kia_one kitOne kitx_dict kitx_list kitx_tuple lookIn makesIn mapOf_K methodObj mg_of nsIn plainGet plainGet_of plainOver takerIn)
set_option Elab.async false
set_option compiler.extract_closed false
set_option bootstrap.genMatcherCode false
set_option linter.all false
set_option maxRecDepth 100000
set_option hygiene false
local macro_rules |`(tactic|kj_on)=>`(tactic| (intro X hP hw hK hc i pins s Y H E I hf st hg;subst hP hw hK))
set_option hygiene true
namespace L2
open PySem PySem.Spec PyProof.Rows
abbrev Key:=Sum Int Str
def Ylv:Key->Value->Bool
 | .inl k,v=>Value.isInt k v
 | .inr x,v=>Value.isStrOf x v
def Yp1 (w:World):Key->Int
 | .inl k=>hashInt k
 | .inr x=>hashStr w x
theorem Xcf:∀{k:Key} {v:Value},Ylv k v=true->(∃i t,k=Sum.inl i/\v=Value.int i t)∨(∃x t,k=Sum.inr x/\v=Value.str x t)
 | .inl i,v,h=>by
  obtain⟨t,e⟩:=Value.isInt_shape h
  exact .inl ⟨i,t,rfl,e⟩
 | .inr x,v,h=>by
  obtain⟨t,e⟩:=Value.isStrOf_shape h
  exact .inr ⟨x,t,rfl,e⟩
theorem Ylu (a b:Int):decide ((Sum.inl a:Key)=Sum.inl b)=(a==b):=by
 by_cases e:a=b
 .subst e;simp
 .have h:¬ (Sum.inl a:Key)=Sum.inl b:=λq=>e (Sum.inl.inj q)
  rw[decide_eq_false h]
  exact (beq_eq_false_iff_ne.mpr e).symm
theorem Ylr (a b:Str):decide ((Sum.inr a:Key)=Sum.inr b)=decide (a=b):=by
 by_cases e:a=b
 .subst e;simp
 .have h:¬ (Sum.inr a:Key)=Sum.inr b:=λq=>e (Sum.inr.inj q)
  rw[decide_eq_false h,decide_eq_false e]
theorem Ylt (a:Int)(b:Str):decide ((Sum.inl a:Key)=Sum.inr b)=false:=decide_eq_false (λq=>nomatch q)
theorem Yls (a:Str)(b:Int):decide ((Sum.inr a:Key)=Sum.inl b)=false:=decide_eq_false (λq=>nomatch q)
def Xuf (prog:Program)(w:World):PySem.KeyKind prog w Key where
 is:=Ylv
 hash:=Yp1 w
 inj := λv a b ha hb=>by
  rcases Xcf ha with⟨i,t,rfl,rfl⟩ | ⟨x,t,rfl,rfl⟩
  .rcases Xcf hb with⟨j,u,rfl,e⟩ | ⟨y,u,rfl,e⟩
   .injection e with e1 _;rw[e1]
   .exact nomatch e
  .rcases Xcf hb with⟨j,u,rfl,e⟩ | ⟨y,u,rfl,e⟩
   .exact nomatch e
   .injection e with e1 _;rw[e1]
 byValue:=λk v h=>by
  rcases Xcf h with⟨i,t,rfl,rfl⟩ | ⟨x,t,rfl,rfl⟩<;>rfl
 pyHash:=λhv h=>by
  rcases Xcf hv with⟨i,t,rfl,rfl⟩ | ⟨x,t,rfl,rfl⟩
  .exact wpAny_pyHash_int h
  .exact wpAny_pyHash_str h
 eqBool:=λhu hv h=>by
  rcases Xcf hu with⟨i,t,rfl,rfl⟩ | ⟨x,t,rfl,rfl⟩
  .rcases Xcf hv with⟨j,u,rfl,rfl⟩ | ⟨y,u,rfl,rfl⟩
   .rw [Ylu]at h;exact wpAny_eqBool_int h
   .rw [Ylt]at h;exact SeqAt.EqAt.int_str i t y u _ _ _ _ h
  .rcases Xcf hv with⟨j,u,rfl,rfl⟩ | ⟨y,u,rfl,rfl⟩
   .rw [Yls]at h;exact SeqAt.EqAt.str_int x t j u _ _ _ _ h
   .rw [Ylr]at h;exact wpAny_eqBool_str h
 «strs»:=λk x t v h=>by
  rcases Xcf h with⟨i,u,rfl,e⟩ | ⟨y,u,rfl,e⟩
  .exact nomatch e
  .injection e with e1 _
   subst e1
   cases v<;>rfl
inductive V where
 |non |bl (b:Bool) |int (i:Int) |str (x:Str) |byt (b:Array UInt8) |flt (b:UInt64) |ref (a:Addr) |ty (n:String)
 deriving DecidableEq
def Xdh:V->Value->Prop
 | .non,u=>u=Value.none
 | .bl b,u=>u=Value.bool b
 | .int i,u=>∃t,u=Value.int i t
 | .str x,u=>∃t,u=Value.str x t
 | .byt b,u=>∃t,u=Value.bytes b t
 | .flt b,u=>∃t,u=Value.float b t
 | .ref a,u=>u=Value.ref a
 | .ty n,u=>u=Value.type n
abbrev Xbz:List V->List Value->Prop:=Paired Xdh
theorem Xbz.length (r:Xbz xs us):xs.length=us.length:=Paired.length r
theorem Xbz.get:∀{xs:List V} {us:List Value} {i:Nat} {x:V},Xbz xs us->xs[i]?=some x->∃u,us[i]?=some u/\Xdh x u
 |_,_,_,_,.nil,e=>by simp at e
 |_,_,0,_,.cons r _,e=>by simp at e;subst e;exact⟨_,rfl,r⟩
 |_,_,i+1,x,.cons _ t,e=>by
  obtain⟨u,h1,h2⟩:=Xbz.get t e
  exact⟨u,h1,h2⟩
theorem Xbz.set (r:Xdh x u):∀{xs:List V} {us:List Value} (i:Nat),Xbz xs us->Xbz (xs.set i x) (us.set i u)
 |_,_,_,.nil=>.nil
 |_,_,0,.cons _ t=>.cons r t
 |_,_,i+1,.cons q t=>.cons q (Xbz.set r i t)
theorem Xbz.append:∀{xs ys:List V} {us ws:List Value},Xbz xs us->Xbz ys ws->Xbz (xs++ys) (us++ws)
 |_,_,_,_,.nil,s=>s
 |_,_,_,_,.cons r t,s=>.cons r (Xbz.append t s)
theorem Xbz.take:∀{xs:List V} {us:List Value} (n:Nat),Xbz xs us->Xbz (xs.take n) (us.take n)
 |_,_,0,_=>.nil
 |_,_,_+1,.nil=>.nil
 |_,_,n+1,.cons r t=>.cons r (Xbz.take n t)
theorem Xbz.drop:∀{xs:List V} {us:List Value} (n:Nat),Xbz xs us->Xbz (xs.drop n) (us.drop n)
 |_,_,0,r=>r
 |_,_,_+1,.nil=>.nil
 |_,_,n+1,.cons _ t=>Xbz.drop n t
def Yd2:Option V->Option Value->Prop
 |some v,some u=>Xdh v u
 |none,none=>True
 |_,_=>False
def KV {κ:Type}:List (κ×V)->List (κ×Value)->Prop:=Paired λ(p:κ×V) (q:κ×Value)=>p.1=q.1/\Xdh p.2 q.2
def kV:Key->V
 | .inl i=>.int i
 | .inr x=>.str x
inductive HO where
  |lst (xs:List V)
  |tup (xs:List V)
  |dK (kvs:List (Key×V)) |dT (kvs:List (List Key×V))
  |set (S:Int->Bool) (n:Nat)
  |ins (C dx:Addr) (fs:List (Str×V))
  |own (x:Addr)
  |xd (fs:List (Str×V))
  |met (f x:Addr)
  |rng (lo hi:Int)
  |frz (o:Obj) (u:HO)
  |tbl (ps:Array Value)
  |ext (φ:Heap->Prop)
abbrev Hp:=Addr->Option HO
def upd (H:Hp)(a:Addr)(o:HO):Hp:=λb=>if b=a then some o else H b
theorem Xay {H:Hp}:upd H a o a=some o:=by unfold upd;rw[if_pos rfl]
theorem Xbu {H:Hp}(h:b≠a):upd H a o b=H b:=by unfold upd;rw[if_neg h]
theorem Xel {H:Hp}{a b:Addr}{o:HO}(h:H a=some o)(h':H b=none):a≠b:=by
 intro e;subst e;rw[h]at h';cases h'
section
variable (P:Program)(w:World)
def Xe7 (H:Hp)(h:Heap)(a:Addr):HO->Prop
 | .lst xs=>xs.length<=sizeLine/\∃(its:List Value) (n:Nat),Xbz xs its/\h.get? a=some {cls:=.type "list",data:=.seq its.toArray n}
 | .tup xs=>xs.length<=sizeLine/\∃its:List Value,Xbz xs its/\IsTup h a its.toArray
 | .dK kvs=>kvs.length<=sizeLine/\(a==sysModules)=false/\∃vs,KV kvs vs/\h.DictOf (Xuf P w) a vs
 | .dT kvs=>kvs.length<=sizeLine/\(a==sysModules)=false/\∃xs:List (List Key×Addr×Value),
   Paired (λ(p:List Key×V) (q:List Key×Addr×Value)=>p.1=q.1/\H q.2.1=some (.tup (p.1.map kV))/\Xdh p.2 q.2.2) kvs xs/\
   ∃o es ep,h.get? a=some o/\o.ExactDict/\o.data = .dict es ep/\es.toList=xs.map (entryOfKey (tupleKind (Xuf P w)))/\(xs.map (·.1)).Nodup
 | .set S n=>h.SetOf (intKind P w) a S n
 | .ins C dx fs=>H dx=some (.own a)/\fs.length<=1000/\dx≠a/\h.get? a=some (instObj C dx)/\
   ∃mA,h.Ns1 dx mA/\(∀f,Yd2 (fs.lookup f) (mA f))/\PySem.Within mA (fs.map (·.1))
 | .own _=>∃o,h.get? a=some o
 | .xd fs=>∃mA,h.Ns1 a mA/\∀f,Yd2 (fs.lookup f) (mA f)
 | .rng lo hi=>∃t u v,h.get? a=some {cls:=.type "range",data:=.fields #[.int lo t,.int hi u,.int 1 v]}
 | .frz o u=>h.get? a=some o/\Xe7 H h a u
 | .tbl ps=>h.get? a=some {cls:=.none,data:=.fields ps}
 | .met f x=>h.get? a=some (methodObj (.ref f) (.ref x))
 | .ext φ=>φ h/\(∃o,h.get? a=some o)/\∀h1 h2:Heap,φ h1->(∀o,h1.get? a=some o->h2.get? a=some o)->φ h2
def HOk (H:Hp)(h:Heap):Prop:=∀a o,H a=some o->Xe7 P w H h a o
end
section
variable {P:Program}{w:World}{H H':Hp}{h h':Heap}{a:Addr}{o:HO}
theorem Xe7.lt (x:Xe7 P w H h a o):a<h.objs.size:=by
 cases o with
 |lst xs=>obtain⟨_,_,_,_,e⟩:=x;exact lt_size e
 |tup xs=>obtain⟨_,_,_,p⟩:=x;exact p.lt
 |dK kvs=>obtain⟨_,_,_,_,o,_,_,e,_⟩:=x;exact lt_size e
 |dT kvs=>obtain⟨_,_,_,_,o,_,_,e,_⟩:=x;exact lt_size e
 |set S n=>obtain⟨o,_,_,_,e,_⟩:=x;exact lt_size e
 |ins C dx fs=>obtain⟨_,_,_,e,_⟩:=x;exact lt_size e
 |own y=>obtain⟨_,e⟩:=x;exact lt_size e
 |xd fs=>obtain⟨_,⟨_,_,_,e,_⟩,_⟩:=x;exact lt_size e
 |rng lo hi=>obtain⟨_,_,_,e⟩:=x;exact lt_size e
 |frz ob u=>obtain⟨e,_⟩:=x;exact lt_size e
 |tbl ps=>exact lt_size (show h.get? a=some _ from x)
 |met f y=>exact lt_size (show h.get? a=some _ from x)
 |ext φ=>obtain⟨_,⟨_,e⟩,_⟩:=x;exact lt_size e
theorem Paired.mapP {α β:Type}{F G:α->β->Prop}:∀{l₁:List α} {l₂:List β},Paired F l₁ l₂->(∀a b,F a b->G a b)->Paired G l₁ l₂
 |_,_,.nil,_=>.nil
 |_,_,.cons r t,f=>.cons (f _ _ r) (Paired.mapP t f)
theorem Xe7.stay (x:Xe7 P w H h a o)(k:∀b u,(b=a∨H b=some (.own a))->h.get? b=some u->h'.get? b=some u)
  (ho:∀b,H b=some (.own a)->H' b=some (.own a)) (ht:∀b xs,H b=some (.tup xs)->H' b=some (.tup xs)):Xe7 P w H' h' a o:=by
 induction o with
 |lst xs=>obtain⟨z,its,n,r,e⟩:=x;exact⟨z,its,n,r,k _ _ (.inl rfl) e⟩
 |tup xs=>obtain⟨z,its,r,ob,e,c⟩:=x;exact⟨z,its,r,ob,k _ _ (.inl rfl) e,c⟩
 |dK kvs=>obtain⟨z,y,vs,r,ob,es,ep,e,c⟩:=x;exact⟨z,y,vs,r,ob,es,ep,k _ _ (.inl rfl) e,c⟩
 |dT kvs=>
  obtain⟨z,y,xs,r,ob,es,ep,e,c⟩:=x
  exact⟨z,y,xs,Paired.mapP r λp q z=>⟨z.1,ht _ _ z.2.1,z.2.2⟩,ob,es,ep,k _ _ (.inl rfl) e,c⟩
 |set S n=>obtain⟨ob,es,ep,t,e,c⟩:=x;exact⟨ob,es,ep,t,k _ _ (.inl rfl) e,c⟩
 |ins C dx fs=>
  obtain⟨d,z,ne,e,mA,⟨od,es,ep,e2,c⟩,r⟩:=x
  exact⟨ho _ d,z,ne,k _ _ (.inl rfl) e,mA,⟨od,es,ep,k _ _ (.inr d) e2,c⟩,r⟩
 |own y=>obtain⟨ob,e⟩:=x;exact⟨ob,k _ _ (.inl rfl) e⟩
 |xd fs=>obtain⟨mA,⟨od,es,ep,e,c⟩,r⟩:=x;exact⟨mA,⟨od,es,ep,k _ _ (.inl rfl) e,c⟩,r⟩
 |rng lo hi=>obtain⟨t,u,v,e⟩:=x;exact⟨t,u,v,k _ _ (.inl rfl) e⟩
 |frz ob u ih=>obtain⟨e,q⟩:=x;exact⟨k _ _ (.inl rfl) e,ih q⟩
 |tbl ps=>
  have e:h.get? a=some {cls:=.none,data:=.fields ps}:=x
  exact k a _ (.inl rfl) e
 |met f y=>
  have e:h.get? a=some (methodObj (.ref f) (.ref y)):=x
  exact k a _ (.inl rfl) e
 |ext φ=>obtain⟨p,⟨o,e⟩,st⟩:=x;exact⟨st _ _ p λo q=>k _ _ (.inl rfl) q,⟨o,k _ _ (.inl rfl) e⟩,st⟩
theorem HOk.lt (x:HOk P w H h)(e:H a=some o):a<h.objs.size:=(x a o e).lt
theorem HOk.fresh (x:HOk P w H h)(e:h.objs.size<=a):H a=none:=by
 cases q:H a with
 |none=>rfl
 |some u=>exact absurd (lt_of_lt_of_le (x.lt q) e) (lt_irrefl _)
theorem HOk.kept (x:HOk P w H h)(k:∀b u,h.get? b=some u->h'.get? b=some u):HOk P w H h':=λa o e=>
 (x a o e).stay (λb u _ q=>k b u q) (λ_ q=>q) λ_ _ q=>q
theorem HOk.laid (x:HOk P w H h)(k:∀b u,h.get? b=some u->h'.get? b=some u)(hp:h.objs.size<=a)(new:Xe7 P w (upd H a o) h' a o):HOk P w (upd H a o) h':=λb u e=>by
 have hn:=x.fresh hp
 by_cases hb:b=a
 .subst hb;rw[Xay]at e;cases e;exact new
 .rw [Xbu hb]at e
  exact (x b u e).stay (λc v _ q=>k c v q) (λc q=>by rw[Xbu (Xel q hn)];exact q) λc xs q=>by rw[Xbu (Xel q hn)];exact q
end
def Rd (H:Hp)(a:Addr)(u:HO):Prop:=H a=some u∨∃o,H a=some (.frz o u)
theorem Rd.ok {P:Program}{w:World}{H:Hp}(r:Rd H a u)(x:HOk P w H h):Xe7 P w H h a u:=by
 rcases r with r | ⟨o,r⟩
 .exact x a u r
 .obtain ⟨_,q⟩:=x a _ r
  exact q
def Mut:Option HO->Prop
 |some (.lst _)=>True
 |some (.dK _)=>True
 |some (.dT _)=>True
 |some (.set _ _)=>True
 |some (.ins _ _ _)=>True
 |some (.ext _)=>True
 |_=>False
section
variable {P:Program}{w:World}{H:Hp}{h h':Heap}{x e:Addr}{o':HO}
theorem HOk.write (ok:HOk P w H h)(mu:Mut (H x))(he:e=x∨H e=some (.own x))(k:∀b u,b≠e->h.get? b=some u->h'.get? b=some u)(heo:∃u,h'.get? e=some u)
  (new:Xe7 P w (upd H x o') h' x o'):HOk P w (upd H x o') h':=λb u q=>by
 have nown:∀c y,H c=some (.own y)->c≠x:=λc y r z=>by subst z;rw[r]at mu;exact mu
 have ntup:∀c xs,H c=some (.tup xs)->c≠x:=λc xs r z=>by subst z;rw[r]at mu;exact mu
 by_cases hb:b=x
 .subst hb;rw[Xay]at q;cases q;exact new
 .rw [Xbu hb]at q
  by_cases hbe:b=e
  .have q':H b=some (.own x):=by
    rcases he with z |z
    .exact absurd (hbe.trans z) hb
    .rw [hbe];exact z
   rw[q]at q';cases q'
   obtain⟨v,hv⟩:=heo
   exact⟨v,by rw[hbe];exact hv⟩
  .refine (ok b u q).stay (λc v hc r=>k c v ?_ r) (λc r=>by rw[Xbu (nown c b r)];exact r) λc xs r=>by rw[Xbu (ntup c xs r)];exact r
   rcases hc with rfl |hc
   .exact hbe
   .rintro rfl
    rcases he with z |z
    .exact nown c b hc z
    .rw [hc]at z;cases z;exact hb rfl
end
structure Un (fs ex:List Addr) (H H':Hp) (h h':Heap):Prop where
 keep:∀b o,h.get? b=some o->H b=none->b∉fs->b∉ex->h'.get? b=some o
 slot:∀b o,h.get? b=some o->H b=none->b∈fs->b∉ex->∃sl,h'.get? b=some {o with slots:=sl}
 free:∀b o,h.get? b=some o->H b=none->b∉ex->H' b=none
 there:∀b o,h.get? b=some o->b∉ex->∃o',h'.get? b=some o'
 tups:∀b xs,H b=some (.tup xs)->H' b=some (.tup xs)
 frzs:∀b o u,H b=some (.frz o u)->H' b=some (.frz o u)
 tbls:∀b ps,H b=some (.tbl ps)->∃more,H' b=some (.tbl (ps++more))
section
variable {fs fs' ex ex':List Addr}{H H1 H2:Hp}{h h1 h2 h':Heap}{a x e:Addr}{o:HO}
theorem Un.any (u:Un fs ex H H1 h h1)(q:h.get? b=some ob)(n:H b=none)(hx:b∉ex):∃sl,h1.get? b=some {ob with slots:=sl}:=by
 by_cases hb:b∈fs
 .exact u.slot b ob q n hb hx
 .exact ⟨ob.slots,u.keep b ob q n hb hx⟩
theorem Un.kept (k:∀b u,h.get? b=some u->h'.get? b=some u):Un fs ex H H h h':=
 ⟨λb ob q _ _ _=>k b ob q,λb ob q _ _ _=>⟨ob.slots,k b ob q⟩,λ_ _ _ n _=>n,λb ob q _=>⟨ob,k b ob q⟩,λ_ _ q=>q,λ_ _ _ q=>q,λ_ ps q=>⟨#[],by rw[q];simp⟩⟩
theorem Un.refl:Un fs ex H H h h:=Un.kept λ_ _ q=>q
theorem Un.laid (k:∀b u,h.get? b=some u->h'.get? b=some u)(hp:h.objs.size<=a)(hn:H a=none):Un fs ex H (upd H a o) h h' where
 keep:=λb u q _ _ _=>k b u q
 slot:=λb u q _ _ _=>⟨u.slots,k b u q⟩
 free:=λb u q n _=>by rw[Xbu (ne_of_lt (lt_of_lt_of_le (lt_size q) hp))];exact n
 there:=λb u q _=>⟨u,k b u q⟩
 tups:=λb xs q=>by rw[Xbu (Xel q hn)];exact q
 frzs:=λb u xs q=>by rw[Xbu (Xel q hn)];exact q
 tbls:=λb ps q=>⟨#[],by rw[Xbu (Xel q hn),q];simp⟩
theorem Un.write (mu:Mut (H x))(he:e=x∨H e=some (.own x))(k:∀b u,b≠e->h.get? b=some u->h'.get? b=some u)(heo:∃u,h'.get? e=some u):Un fs ex H (upd H x o) h h':=by
 have hx:∀b,H b=none->b≠x:=λb n z=>by subst z;rw[n]at mu;exact mu
 have hb:∀b,H b=none->b≠e:=λb n z=>by
  subst z
  rcases he with r |r
  .exact hx b n r
  .rw [n]at r;cases r
 have hm:∀b u,H b=some u->¬ Mut (some u)->b≠x:=λb u q nm z=>by subst z;rw[q]at mu;exact nm mu
 refine⟨λb u q n _ _=>k b u (hb b n) q,λb u q n _ _=>⟨u.slots,k b u (hb b n) q⟩,λb u q n _=>by rw[Xbu (hx b n)];exact n,λb u q _=>?_,
  λb xs q=>by rw[Xbu (hm b _ q λz=>z)];exact q,λb u xs q=>by rw[Xbu (hm b _ q λz=>z)];exact q,λb ps q=>⟨#[],by rw[Xbu (hm b _ q λz=>z),q];simp⟩⟩
 by_cases hbe:b=e
 .subst hbe;exact heo
 .exact ⟨u,k b u hbe q⟩
end
def trk (h:Heap)(H:Hp):List Addr:=(List.range h.objs.size).filter λa=>(H a).isSome
def Ydr (h:Heap)(H:Hp):Heap:=PySem.W.hideAll h (trk h H)
theorem Yao (h:Heap)(H:Hp):(Ydr h H).objs.size=h.objs.size:=PySem.W.hideAll_size _ _
theorem Ydq {H:Hp}(e:h.get? b=some o)(n:H b=none):(Ydr h H).get? b=some o:=
 PySem.W.hideAll_get _ e λhm=>by
  have q:(H b).isSome=true:=(mem_filter.mp hm).2
  rw[n]at q;simp at q
theorem Yh0 {H:Hp}(e:(Ydr h H).get? b=some o):h.get? b=some o/\H b=none:=by
 have e':h.get? b=some o:=PySem.W.of_hideAll (trk h H) e
 refine⟨e',?_⟩
 cases q:H b with
 |none=>rfl
 |some x=>
  have hm:b∈trk h H:=mem_filter.mpr ⟨mem_range.mpr (lt_size e'),by simp[q]⟩
  have z:(Ydr h H).get? b=none:=PySem.W.hideAll_none (trk h H) hm
  rw[z]at e;cases e
def Yjl (g h:Heap)(L:Addr):List (Addr×Obj):=(List.range h.objs.size).filterMap λa=>if a=L∨(g.get? a).isSome=true then none else (h.get? a).map λo=>(a,o)
def Xis (g h:Heap)(L d:Addr):List (Addr×Obj):=(Yjl g h L).filter λp=>decide (p.1≠d)
structure Mod (K:Frag) (mg:Str->Option Value) (base:Heap):Prop where
 kin:K.In base
 glob:base.Ns mainGlobals mg
 blt:∃mb,base.Ns builtinsNs mb/\∀x:Str,x ≠ "__name__"->mb x=bootBuiltins x
 nolimit:base.NoLimit
structure Cx where
 prog:Program
 w:World
 K:Frag
 mg:Str->Option Value
 base:Heap
 A:Around
 N:List Str
 s₀:Shared
 H₀:Hp
 env:Env
 outer:List Env
 stack:List Env
 ex:List Addr
 fn:Str->Bool
 calm:Bool
 pn:List (Addr×Obj)
 xe:Value->Shared->Prop
def frs (l:List Env):List Addr:=l.filterMap (·.frame)
abbrev Cx.fs (X:Cx):List Addr:=frs X.outer
def Vis (sc:Scope)(x:Str):Prop:=sc.names.lookup x=some .local∨sc.names.lookup x=some .cell∨sc.names.lookup x=some .free
def Loc (sc:Scope)(x:Str):Prop:=sc.names.lookup x=some .local∨sc.names.lookup x=some .cell
def Ypn (env:Env)(h:Heap)(m:Str->Option Value)(x:Str)(u:Value):Prop:=
 (env.kindOf x=some .local/\m x=some u)∨((env.kindOf x=some .cell∨env.kindOf x=some .free)/\∃c,env.cells.lookup x=some c/\h.IsCell c (some u))
structure Cx.Ok (X:Cx):Prop where
 mod:Mod X.K X.mg X.base
 kind:X.env.scope.kind = .function
 glob:X.env.globals=mainGlobals
 blt:X.env.builtins=builtinsNs
 above:X.s₀.heap.objs.size<=X.env.locals
 inj:∀x y c,X.env.cells.lookup x=some c->X.env.cells.lookup y=some c->x=y
 has:∀x,(X.env.kindOf x=some .cell∨X.env.kindOf x=some .free)->∃c,X.env.cells.lookup x=some c
 cab:∀x c,X.fn x=true->X.env.cells.lookup x=some c->X.s₀.heap.objs.size<=c
 hd:X.calm=true->X.A.handled=none
 frames:X.A.frames=some X.stack
 stk:X.stack=X.outer∨(X.stack=X.env::X.outer/\X.env.frame=some X.env.locals)
 exf:∀b∈X.ex,b≠X.env.locals/\∀x c,X.env.cells.lookup x=some c->c≠b
 bs:∀b o,X.base.get? b=some o->X.s₀.heap.get? b=some o/\X.H₀ b=none
 bsz:X.base.objs.size<=X.s₀.heap.objs.size
 noex:∀b o,X.base.get? b=some o->b∉X.ex
 exfs:∀b∈X.ex,b∉X.fs
 funs:X.s₀.heap.FunFrames X.base X.outer
 frf:∀b∈X.fs,X.H₀ b=none
structure Inv (X:Cx) (pins:List (Addr×Obj)) (Y:List (Option V)) (H:Hp) (s:Shared):Prop where
 ok:X.Ok
 os:s.os=X.s₀.os
 bare:AllBare s.gens
 base:Un X.fs X.ex X.H₀ H X.s₀.heap s.heap
 loc:∃m,s.heap.Ns X.env.locals m/\∀(i:Nat) (x:Str) (v:V),X.N[i]?=some x->Y[i]?=some (some v)->Vis X.env.scope x->∃u,Xdh v u/\Ypn X.env s.heap m x u
 cell:∀x c,X.env.cells.lookup x=some c->∃v,s.heap.IsCell c v
 free:H X.env.locals=none
 freeC:∀x c,X.env.cells.lookup x=some c->H c=none
 pin:∀p∈X.pn++pins,s.heap.get? p.1=some p.2/\H p.1=none/\p.1≠X.env.locals/\p.1∉X.fs/\∀v,p.2.data≠.cell v
 hok:HOk X.prog X.w H s.heap
 len:Y.length=X.N.length
section
variable {X:Cx}{pins:List (Addr×Obj)}{Y:List (Option V)}{H H':Hp}{s:Shared}{h':Heap}
theorem Cx.Ok.nofr (ok:X.Ok)(e:X.base.get? b=some o):b∉X.fs:=λhb=>by
 have:=(ok.funs.mem hb).1
 rw[e]at this;cases this
theorem Inv.bs (I:Inv X pins Y H s):∀b o,X.base.get? b=some o->s.heap.get? b=some o/\H b=none:=λb o e=>
 ⟨I.base.keep b o (I.ok.bs b o e).1 (I.ok.bs b o e).2 (I.ok.nofr e) (I.ok.noex b o e),I.base.free b o (I.ok.bs b o e).1 (I.ok.bs b o e).2 (I.ok.noex b o e)⟩
theorem Inv.bk (I:Inv X pins Y H s):∀b o,X.base.get? b=some o->s.heap.get? b=some o:=λb o e=>(I.bs b o e).1
theorem Inv.mod (I:Inv X pins Y H s):Mod X.K X.mg X.base:=I.ok.mod
theorem Inv.kIn (I:Inv X pins Y H s):X.K.In s.heap:=I.ok.mod.kin.keeps I.bk
theorem Inv.nolimit (I:Inv X pins Y H s):s.heap.NoLimit:=I.ok.mod.nolimit.keeps I.bk
theorem Inv.lt (I:Inv X pins Y H s):X.env.locals<s.heap.objs.size:=let⟨_,hn,_⟩:=I.loc;hn.lt
theorem Inv.sz (I:Inv X pins Y H s):X.s₀.heap.objs.size<=s.heap.objs.size:=le_trans I.ok.above (le_of_lt I.lt)
theorem Inv.nofs (I:Inv X pins Y H s)(h:s.heap.objs.size<=a):a∉X.fs:=λhb=>by
 obtain⟨_,o,ho,_⟩:=I.ok.funs.mem hb
 exact absurd (lt_of_lt_of_le (lt_size ho) (le_trans I.sz h)) (lt_irrefl _)
theorem Inv.cne (I:Inv X pins Y H s):∀x c,X.env.cells.lookup x=some c->c≠X.env.locals:=λx c e z=>by
 obtain⟨v,o,ho,hd⟩:=I.cell x c e
 obtain⟨m,⟨o',es,ep,ho',hd',_⟩,_⟩:=I.loc
 rw[z,ho']at ho;cases ho;rw[hd']at hd;cases hd
theorem Inv.funs (I:Inv X pins Y H s):s.heap.FunFrames X.base X.outer:=by
 have all:∀(l:List Env),(∀b∈frs l,b∈X.fs)->X.s₀.heap.FunFrames X.base l->s.heap.FunFrames X.base l:=by
  intro l
  induction l with
  |nil=>intro _ _;trivial
  |cons env r ih=>
   intro hs hl
   obtain⟨hk,⟨L,o,hf,hn,ho,hd⟩,hr⟩:=hl
   have hL:L∈X.fs:=hs L (by unfold frs;rw[filterMap_cons,hf];exact mem_cons_self)
   obtain⟨sl,e⟩:=I.base.slot L o ho (I.ok.frf L hL) hL λz=>I.ok.exfs L z hL
   exact⟨hk,⟨L,_,hf,hn,e,hd⟩,ih (λb hb=>hs b (by unfold frs;rw[filterMap_cons,hf];exact mem_cons_of_mem _ hb)) hr⟩
 exact all X.outer (λ_ hb=>hb) I.ok.funs
theorem Inv.stack (I:Inv X pins Y H s):s.heap.FunFrames X.base X.stack:=by
 rcases I.ok.stk with e | ⟨e,hf⟩
 .rw [e];exact I.funs
 .rw [e]
  obtain⟨m,hn,_⟩:=I.loc
  refine .cons (by rw[I.ok.kind];decide) hf hn ?_ I.funs
  exact Heap.get?_none_of_le (le_trans I.ok.bsz I.ok.above)
theorem Inv.stkSub (I:Inv X pins Y H s):∀b∈frs X.stack,b∈X.env.locals::X.fs:=λb hb=>by
 rcases I.ok.stk with e | ⟨e,hf⟩
 .rw [e]at hb;exact mem_cons_of_mem _ hb
 .rw [e]at hb
  unfold frs at hb
  rw[filterMap_cons,hf]at hb
  exact hb
theorem Inv.stkFree (I:Inv X pins Y H s):∀b∈frs X.stack,H b=none:=λb hb=>by
 rcases mem_cons.mp (I.stkSub b hb) with e |hb
 .rw [e];exact I.free
 .obtain ⟨_,o,ho,_⟩:=I.ok.funs.mem hb
  exact I.base.free b o ho (I.ok.frf b hb) λz=>I.ok.exfs b z hb
theorem Inv.step {g':Array GenState}{t':Nat}{d':Drawn}{ch:List Addr}(I:Inv X pins Y H s)
  (hch:∀b∈ch,(b∈X.ex∨X.s₀.heap.objs.size<=b)/\b≠X.env.locals/\(∀x c,X.env.cells.lookup x=some c->c≠b)/\∀p∈X.pn++pins,p.1≠b)
  (keep:∀b o,b≠X.env.locals->b∉X.fs->b∉ch->s.heap.get? b=some o->H b=none->h'.get? b=some o)
  (slot:∀b o,b≠X.env.locals->b∈X.fs->b∉ch->s.heap.get? b=some o->H b=none->∃sl,h'.get? b=some {o with slots:=sl}) (free:∀b o,b∉ch->s.heap.get? b=some o->H b=none->H' b=none)
  (there:∀b o,b∉ch->s.heap.get? b=some o->∃o',h'.get? b=some o')
  (tups:∀b xs,H b=some (.tup xs)->H' b=some (.tup xs)) (frzs:∀b o u,H b=some (.frz o u)->H' b=some (.frz o u)) (tbls:∀b ps,H b=some (.tbl ps)->∃more,H' b=some (.tbl (ps++more)))
  (ns:∀m,s.heap.Ns X.env.locals m->h'.Ns X.env.locals m) (hok:HOk X.prog X.w H' h') (hg:AllBare g'):
  Inv X pins Y H' {s with heap:=h',gens:=g',drawn:=d',toks:=t'}:=by
 have neL:∀b o,X.s₀.heap.get? b=some o->b≠X.env.locals:=λb o e=>ne_of_lt (lt_of_lt_of_le (lt_size e) I.ok.above)
 have neC:∀b o,X.s₀.heap.get? b=some o->b∉X.ex->b∉ch:=λb o e hx hb=>by
  rcases (hch b hb).1 with z |z
  .exact hx z
  .exact absurd (lt_of_lt_of_le (lt_size e) z) (lt_irrefl _)
 have cellK:∀x c,X.env.cells.lookup x=some c->∀v,s.heap.IsCell c v->h'.IsCell c v:=λx c e v ⟨o,ho,hd⟩=>by
  have nch:c∉ch:=λz=>(hch c z).2.2.1 x c e rfl
  by_cases hc:c∈X.fs
  .obtain ⟨sl,q⟩:=slot c o (I.cne x c e) hc nch ho (I.freeC x c e)
   exact⟨_,q,hd⟩
  .exact ⟨o,keep c o (I.cne x c e) hc nch ho (I.freeC x c e),hd⟩
 refine⟨I.ok,I.os,hg,⟨λb o e n hb hx=>?_,λb o e n hb hx=>?_,λb o e n hx=>?_,λb o e hx=>?_,λb xs e=>tups b xs (I.base.tups b xs e),λb o xs e=>frzs b o xs (I.base.frzs b o xs e),λb ps e=>?_⟩,?_,λx c e=>?_,?_,λx c e=>?_,λp hp=>?_,hok,I.len⟩
 .exact keep b o (neL b o e) hb (neC b o e hx) (I.base.keep b o e n hb hx) (I.base.free b o e n hx)
 .obtain ⟨sl,e1⟩:=I.base.slot b o e n hb hx
  obtain⟨sl',e2⟩:=slot b _ (neL b o e) hb (neC b o e hx) e1 (I.base.free b o e n hx)
  exact⟨sl',e2⟩
 .obtain ⟨o',e1⟩:=I.base.there b o e hx
  exact free b o' (neC b o e hx) e1 (I.base.free b o e n hx)
 .obtain ⟨o',e1⟩:=I.base.there b o e hx
  exact there b o' (neC b o e hx) e1
 .obtain ⟨m1,e1⟩:=I.base.tbls b ps e
  obtain⟨m2,e2⟩:=tbls b _ e1
  exact⟨m1++m2,by rw[e2,Array.append_assoc]⟩
 .obtain ⟨m,hn,hl⟩:=I.loc
  refine⟨m,ns m hn,λi x v e1 e2 e3=>?_⟩
  obtain⟨u,r,l⟩:=hl i x v e1 e2 e3
  refine⟨u,r,?_⟩
  rcases l with l | ⟨k,c,e,z⟩
  .exact .inl l
  .exact .inr ⟨k,c,e,cellK x c e _ z⟩
 .obtain ⟨v,z⟩:=I.cell x c e
  exact⟨v,cellK x c e v z⟩
 .obtain ⟨m,⟨o,_,_,ho,_⟩,_⟩:=I.loc
  exact free _ o (λz=>(hch _ z).2.1 rfl) ho I.free
 .obtain ⟨v,o,ho,hd⟩:=I.cell x c e
  exact free c o (λz=>(hch c z).2.2.1 x c e rfl) ho (I.freeC x c e)
 .obtain ⟨e,n,ne,nf,d⟩:=I.pin p hp
  have nch:p.1∉ch:=λz=>(hch p.1 z).2.2.2 p hp rfl
  exact⟨keep p.1 p.2 ne nf nch e n,free p.1 p.2 nch e n,ne,nf,d⟩
theorem Inv.un (I:Inv X pins Y H s)(u:Un X.fs [] H H' s.heap h')(hok:HOk X.prog X.w H' h'):Inv X pins Y H' {s with heap:=h',toks:=t'}:=by
 obtain⟨m,⟨o,es,ep,ho,r⟩,_⟩:=id I.loc
 obtain⟨sl,hL⟩:=u.any ho I.free (by simp)
 exact I.step (g':=s.gens) (d':=s.drawn) (ch:=[]) (λ_ z=>nomatch z) (λb o _ hb _ e n=>u.keep b o e n hb (by simp)) (λb o _ hb _ e n=>u.slot b o e n hb (by simp)) (λb o _ e n=>u.free b o e n (by simp)) (λb o _ e=>u.there b o e (by simp)) u.tups u.frzs u.tbls (λm' hm=>by
  obtain⟨o',es',ep',ho',r'⟩:=hm
  rw[ho]at ho';cases ho'
  exact⟨_,es',ep',hL,r'⟩) hok I.bare
theorem Inv.call (I:Inv X pins Y H s)(u:Un (frs X.stack) ch H H' s.heap h')(hok:HOk X.prog X.w H' h')(hg:AllBare g')
  (hch:∀b∈ch,(b∈X.ex∨X.s₀.heap.objs.size<=b)/\b≠X.env.locals/\(∀x c,X.env.cells.lookup x=some c->c≠b)/\∀p∈X.pn++pins,p.1≠b):
  Inv X pins Y H' {s with heap:=h',gens:=g',drawn:=d',toks:=t'}:=by
 obtain⟨m,⟨o,es,ep,ho,r⟩,_⟩:=id I.loc
 obtain⟨sl,hL⟩:=u.any ho I.free λz=>(hch _ z).2.1 rfl
 exact I.step hch (λb o hL hb hc e n=>u.keep b o e n (λz=>(mem_cons.mp (I.stkSub b z)).elim hL hb) hc) (λb o _ _ hc e n=>u.any e n hc) (λb o hc e n=>u.free b o e n hc) (λb o hc e=>u.there b o e hc) u.tups u.frzs u.tbls (λm' hm=>by
  obtain⟨o',es',ep',ho',r'⟩:=hm
  rw[ho]at ho';cases ho'
  exact⟨_,es',ep',hL,r'⟩) hok hg
theorem Inv.turned (I:Inv X pins Y H s)(k:∀b o,b≠it->s.heap.get? b=some o->h'.get? b=some o)(hn:H it=none)(hL:it≠X.env.locals)
  (h1:it∈X.ex∨X.s₀.heap.objs.size<=it) (h2:∀x c,X.env.cells.lookup x=some c->c≠it) (h3:∀p∈X.pn++pins,p.1≠it):Inv X pins Y H {s with heap:=h',toks:=t'}:=by
 have nit:∀b u,H b=some u->b≠it:=λb u e z=>by rw[z,hn]at e;cases e
 refine I.step (g':=s.gens) (d':=s.drawn) (ch:=[it]) (λb hb=>?_) (λb o _ _ hc e _=>k b o (λz=>hc (by simp[z])) e) (λb o _ _ hc e _=>⟨o.slots,k b o (λz=>hc (by simp[z])) e⟩) (λ_ _ _ _ n=>n)
  (λb o hc e=>⟨o,k b o (λz=>hc (by simp[z])) e⟩) (λ_ _ e=>e) (λ_ _ _ e=>e) (λb ps e=>⟨#[],by rw[e];simp⟩) (λm hm=>?_) (λb u e=>?_) I.bare
 .have e:b=it:=by simpa using hb
  subst e
  exact⟨h1,hL,h2,h3⟩
 .obtain ⟨o,es,ep,ho,r⟩:=hm
  exact⟨o,es,ep,k _ o (Ne.symm hL) ho,r⟩
 .refine (I.hok b u e).stay (λc v hc q=>k c v ?_ q) (λ_ q=>q) λ_ _ q=>q
  rcases hc with z |z
  .rw [z];exact nit b u e
  .exact nit c _ z
theorem Inv.tok (I:Inv X pins Y H s)(t:Nat):Inv X pins Y H {s with toks:=t}:=I.un (h':=s.heap) (t':=t) Un.refl I.hok
theorem Inv.kept (I:Inv X pins Y H s)(k:∀b u,s.heap.get? b=some u->h'.get? b=some u):Inv X pins Y H {s with heap:=h',toks:=t'}:=I.un (Un.kept k) (I.hok.kept k)
theorem Inv.laid (I:Inv X pins Y H s)(k:∀b u,s.heap.get? b=some u->h'.get? b=some u)(hp:s.heap.objs.size<=a)(new:Xe7 X.prog X.w (upd H a o) h' a o):
  Inv X pins Y (upd H a o) {s with heap:=h',toks:=t'}:=I.un (Un.laid k hp (I.hok.fresh hp)) (I.hok.laid k hp new)
theorem Inv.write (I:Inv X pins Y H s)(mu:Mut (H x))(he:e=x∨H e=some (.own x))(k:∀b u,b≠e->s.heap.get? b=some u->h'.get? b=some u)(heo:∃u,h'.get? e=some u)
  (new:Xe7 X.prog X.w (upd H x o) h' x o):Inv X pins Y (upd H x o) {s with heap:=h',toks:=t'}:=I.un (Un.write mu he k heo) (I.hok.write mu he k heo new)
theorem Inv.pins_of (I:Inv X pins Y H s)(h:∀p∈pins',s.heap.get? p.1=some p.2/\H p.1=none/\p.1≠X.env.locals/\p.1∉X.fs/\∀v,p.2.data≠.cell v):Inv X pins' Y H s:=
 ⟨I.ok,I.os,I.bare,I.base,I.loc,I.cell,I.free,I.freeC,λp hp=>(mem_append.mp hp).elim (λz=>I.pin p (mem_append_left _ z)) (h p),I.hok,I.len⟩
theorem Xqr {N:List Str}(hN:N.Nodup){i j:Nat}{x:Str}(a:N[i]?=some x)(b:N[j]?=some x):i=j:=by
 obtain⟨h1,e1⟩:=List.getElem?_eq_some_iff.mp a
 obtain⟨h2,e2⟩:=List.getElem?_eq_some_iff.mp b
 exact (List.getElem_inj hN).mp (e1.trans e2.symm)
theorem Xmy {M:Model}{A:Around}{E:Value->Shared->Prop}{i:Nat}{x:Str}{v:V}{u:Value}{Q:Unit->Shared->Prop}(I:Inv X pins Y H s)(hN:X.N.Nodup)(hi:X.N[i]?=some x)(hx:Loc X.env.scope x)(r:Xdh v u)
  (h:∀s',Inv X pins (Y.set i (some v)) H s'->(∃a,Heap.SameBut a s.heap s'.heap/\(a=X.env.locals∨X.env.cells.lookup x=some a))->Q () s') (hf:X.fn x=true∨X.env.scope.names.lookup x=some .local:=by first |exact .inl rfl |exact .inr rfl |assumption):wpAny M A (storeName X.env x u) Q E s:=by
 obtain⟨m,hn,hl⟩:=id I.loc
 have hcls:(X.env.scope.kind == .class || (X.env.scope.kind == .module && X.env.locals != X.env.globals))=false:=by rw[I.ok.kind];rfl
 have hiσ:i<Y.length:=by rw[I.len];exact (List.getElem?_eq_some_iff.mp hi).1
 have cne:=I.cne
 have tracked:∀{a:Addr} {h':Heap},(∃o,s.heap.get? a=some o/\H a=none)->Heap.SameBut a s.heap h'->HOk X.prog X.w H h':=λ{a h'} ha hs b ob e=>by
  obtain⟨_,_,hfree⟩:=ha
  refine (I.hok b ob e).stay (λc w' hc q=>(hs.2 c ?_).trans q) (λ_ q=>q) λ_ _ q=>q
  rintro rfl
  rcases hc with rfl |hc
  .rw [hfree]at e;cases e
  .rw [hfree]at hc;cases hc
 rcases hx with hk |hk
 .refine wpAny_storeName_local hk hn (λh' hn' hs=>?_) hcls
  obtain⟨oL,_,_,hoL,_⟩:=id hn
  refine h _ ⟨I.ok,I.os,I.bare,⟨λb o e n hb hx=>?_,λb o e n hb hx=>?_,I.base.free,λb o e hx=>?_,I.base.tups,I.base.frzs,I.base.tbls⟩,⟨_,hn',λj y v' e1 e2 e3=>?_⟩,λy c e=>?_,I.free,I.freeC,λp hp=>?_,tracked ⟨oL,hoL,I.free⟩ hs,by simpa using I.len⟩ ⟨_,hs,.inl rfl⟩
  .exact (hs.2 b (ne_of_lt (lt_of_lt_of_le (lt_size e) I.ok.above))).trans (I.base.keep b o e n hb hx)
  .obtain ⟨sl,e1⟩:=I.base.slot b o e n hb hx
   exact⟨sl,(hs.2 b (ne_of_lt (lt_of_lt_of_le (lt_size e) I.ok.above))).trans e1⟩
  .obtain ⟨o',e1⟩:=I.base.there b o e hx
   exact⟨o',(hs.2 b (ne_of_lt (lt_of_lt_of_le (lt_size e) I.ok.above))).trans e1⟩
  .by_cases hj:j=i
   .subst hj
    rw[hi]at e1;cases e1
    rw[getElem?_set_self hiσ]at e2
    cases e2
    exact⟨u,r,.inl ⟨hk,by simp⟩⟩
   .rw [getElem?_set_ne (Ne.symm hj)]at e2
    obtain⟨u',r',q⟩:=hl j y v' e1 e2 e3
    refine⟨u',r',?_⟩
    rcases q with⟨k,e⟩ | ⟨k,c,e,z⟩
    .refine .inl ⟨k,?_⟩
     have:y≠x:=λe=>hj (Xqr hN e1 (e▸hi))
     simp[this,e]
    .exact .inr ⟨k,c,e,z.sameBut hs (cne y c e)⟩
  .obtain ⟨w',z⟩:=I.cell y c e
   exact⟨w',z.sameBut hs (cne y c e)⟩
  .obtain ⟨e,n,ne,nf,d⟩:=I.pin p hp
   exact⟨(hs.2 p.1 ne).trans e,n,ne,nf,d⟩
 .have hfn:X.fn x=true:=by
   rcases hf with z |z
   .exact z
   .rw [z]at hk;cases hk
  obtain⟨c,hc⟩:=I.ok.has x (.inl hk)
  obtain⟨w',z⟩:=I.cell x c hc
  refine wpAny_storeName_cell I.ok.kind hk hc z (λh' hc' hs=>?_)
  obtain⟨oc,hoc,hocd⟩:=id z
  refine h {s with heap:=h'} ⟨I.ok,I.os,I.bare,⟨λb o e n hb hx=>?_,λb o e n hb hx=>?_,I.base.free,λb o e hx=>?_,I.base.tups,I.base.frzs,I.base.tbls⟩,⟨m,hn.sameBut hs (Ne.symm (cne x c hc)),λj y v' e1 e2 e3=>?_⟩,λy c' e=>?_,I.free,I.freeC,λp hp=>?_,tracked ⟨oc,hoc,I.freeC x c hc⟩ hs,by simpa using I.len⟩ ⟨c,hs,.inr hc⟩
  .exact (hs.2 b (ne_of_lt (lt_of_lt_of_le (lt_size e) (I.ok.cab x c hfn hc)))).trans (I.base.keep b o e n hb hx)
  .obtain ⟨sl,e1⟩:=I.base.slot b o e n hb hx
   exact⟨sl,(hs.2 b (ne_of_lt (lt_of_lt_of_le (lt_size e) (I.ok.cab x c hfn hc)))).trans e1⟩
  .obtain ⟨o',e1⟩:=I.base.there b o e hx
   exact⟨o',(hs.2 b (ne_of_lt (lt_of_lt_of_le (lt_size e) (I.ok.cab x c hfn hc)))).trans e1⟩
  .by_cases hj:j=i
   .subst hj
    rw[hi]at e1;cases e1
    rw[getElem?_set_self hiσ]at e2
    cases e2
    exact⟨u,r,.inr ⟨.inl hk,c,hc,hc'⟩⟩
   .rw [getElem?_set_ne (Ne.symm hj)]at e2
    obtain⟨u',r',q⟩:=hl j y v' e1 e2 e3
    refine⟨u',r',?_⟩
    rcases q with q | ⟨k,c',e,z'⟩
    .exact .inl q
    .refine .inr ⟨k,c',e,z'.sameBut hs ?_⟩
     rintro rfl
     exact hj (Xqr hN e1 (I.ok.inj _ _ _ e hc▸hi))
  .by_cases hcc:c'=c
   .subst hcc;exact⟨_,hc'⟩
   .obtain ⟨w2,z2⟩:=I.cell y c' e
    exact⟨w2,z2.sameBut hs hcc⟩
  .obtain ⟨e,n,ne,nf,d⟩:=I.pin p hp
   refine⟨(hs.2 p.1 ?_).trans e,n,ne,nf,d⟩
   intro q
   rw[q,hoc]at e
   have q':oc=p.2:=Option.some.inj e
   exact d w' (by rw[<- q'];exact hocd)
theorem Xmb {A:Around}{E:Value->Shared->Prop}{Q:Unit->Shared->Prop}(I:Inv X pins Y H s)(hN:X.N.Nodup)(hi:X.N[i]?=some x)(hx:Loc X.env.scope x)(r:Xdh v u)
  (h:∀s',Inv X pins (Y.set i (some v)) H s'->Q () s') (hf:X.fn x=true∨X.env.scope.names.lookup x=some .local:=by first |exact .inl rfl |exact .inr rfl |assumption):wpAny M A (storeName X.env x u) Q E s:=
 Xmy I hN hi hx r (λs' I' _=>h s' I') hf
theorem Inv.call' (I:Inv X pins Y H s)(ho:s'.os=s.os)(u:Un (frs X.stack) ch H H' s.heap s'.heap)(hok:HOk X.prog X.w H' s'.heap)(hg:AllBare s'.gens)
  (hch:∀b∈ch,(b∈X.ex∨X.s₀.heap.objs.size<=b)/\b≠X.env.locals/\(∀x c,X.env.cells.lookup x=some c->c≠b)/\∀p∈X.pn++pins,p.1≠b):Inv X pins Y H' s':=by
 obtain⟨h',g',d',t',o'⟩:=s'
 have e:o'=s.os:=ho
 subst e
 exact I.call (g':=g') (t':=t') (d':=d') u hok hg hch
end
abbrev XK:=Value->Option Addr->Hp->Prop
abbrev St:=List (Option V)
abbrev VK:=V->Hp->Prop
abbrev TE:=St->Hp->VK->Prop
abbrev TT:=St->Hp->(Bool->Hp->Prop)->Prop
abbrev TA:=St->Hp->(List V->Hp->Prop)->Prop
structure Ends where
 nx:St->Hp->Prop
 rt:VK
 bk:St->Hp->Prop:=λ_ _=>False
 ct:St->Hp->Prop:=λ_ _=>False
abbrev TS:=Ends->St->Hp->Prop
def EP (X:Cx)(pins:List (Addr×Obj))(Y:St)(Q:VK)(u:Value)(s':Shared):Prop:=∃v H',Inv X pins Y H' s'/\Xdh v u/\Q v H'
def TP (X:Cx)(pins:List (Addr×Obj))(Y:St)(Q:Bool->Hp->Prop)(b:Bool)(s':Shared):Prop:=∃H',Inv X pins Y H' s'/\Q b H'
def AP (X:Cx)(pins:List (Addr×Obj))(Y:St)(Q:List V->Hp->Prop)(us:List Value)(s':Shared):Prop:=∃vs H',Inv X pins Y H' s'/\Xbz vs us/\Q vs H'
def SP (X:Cx)(pins:List (Addr×Obj))(D:Ends)(f:Flow)(s':Shared):Prop:=
 match f with
 | .next=>∃Y' H',Inv X pins Y' H' s'/\D.nx Y' H'
 | .brk=>∃Y' H',Inv X pins Y' H' s'/\D.bk Y' H'
 | .cont=>∃Y' H',Inv X pins Y' H' s'/\D.ct Y' H'
 | .ret u=>∃v Y' H',Inv X pins Y' H' s'/\Xdh v u/\D.rt v H'
def PE (X:Cx)(e:Expr)(t:TE):Prop:=
 ∀(pins:List (Addr×Obj)) (s:Shared) (Y:St) (H:Hp) (Q:VK),Inv X pins Y H s->t Y H Q->wpAny (model X.prog X.w) X.A (eval e X.env) (EP X pins Y Q) X.xe s
def PT (X:Cx)(e:Expr)(t:TT):Prop:=
 ∀(pins:List (Addr×Obj)) (s:Shared) (Y:St) (H:Hp) (Q:Bool->Hp->Prop),Inv X pins Y H s->t Y H Q->wpAny (model X.prog X.w) X.A (isTrue e X.env (eval e X.env)) (TP X pins Y Q) X.xe s
def PW (X:Cx)(e:Expr)(t:TT):Prop:=
 ∀(whole:Sem Value) (pins:List (Addr×Obj)) (s:Shared) (Y:St) (H:Hp) (Q:Bool->Hp->Prop),Inv X pins Y H s->t Y H Q->wpAny (model X.prog X.w) X.A (isTrue e X.env whole) (TP X pins Y Q) X.xe s
theorem PW.pt (h:PW X e t):PT X e t:=h _
def PA (X:Cx)(es:List Expr)(t:TA):Prop:=
 ∀(pos:Pos) (pins:List (Addr×Obj)) (s:Shared) (Y:St) (H:Hp) (Q:List V->Hp->Prop),Inv X pins Y H s->t Y H Q->wpAny (model X.prog X.w) X.A (spliced (backTo pos (starEach es X.env))) (AP X pins Y Q) X.xe s
def PS (X:Cx)(st:Stmt)(t:TS):Prop:=
 ∀(pins:List (Addr×Obj)) (s:Shared) (Y:St) (H:Hp) (D:Ends),Inv X pins Y H s->t D Y H->wpAny (model X.prog X.w) X.A (exec st X.env) (SP X pins D) X.xe s
def PSs (X:Cx)(st:List Stmt)(t:TS):Prop:=
 ∀(pins:List (Addr×Obj)) (s:Shared) (Y:St) (H:Hp) (D:Ends),Inv X pins Y H s->t D Y H->wpAny (model X.prog X.w) X.A (execs st X.env) (SP X pins D) X.xe s
theorem thn {α:Type}{t:Sem α}{Q Q':α->Shared->Prop}{M:Model}{A:Around}{E:Value->Shared->Prop}{s:Shared}(h:wpAny M A t Q E s)(hQ:∀a s,Q a s->Q' a s):wpAny M A t Q' E s:=wpAny_mono h hQ λ_ _ x=>x
section
variable {X:Cx}
def Xod (i:Nat):TE:=λY H Q=>∃v,Y[i]?=some (some v)/\Q v H
def tC (v:V):TE:=λ_ H Q=>Q v H
theorem Yk6 (hN:X.N[i]?=some x)(hv:Vis X.env.scope x)(hd:(x==("__debug__":Str))=false:=by decide)(hcd:(x==("__classdict__":Str))=false:=by decide):PE X (.Name x pos) (Xod i):=by
 intro pins s Y H Q I h
 obtain⟨v,e,h⟩:=h
 obtain⟨m,hn,hl⟩:=I.loc
 obtain⟨u,r,l⟩:=hl i x v hN e hv
 have fin:EP X pins Y Q u s:=⟨v,H,I,r,h⟩
 rcases l with⟨hk,hm⟩ | ⟨hk,c,hc,hcell⟩
 .exact wpAny_Name (wpAny_loadName_local I.ok.kind hk hn hm fin) hd
 .rcases hk with hk |hk
  .exact wpAny_Name (wpAny_loadName_cell I.ok.kind hk hc hcell fin) hd
  .exact wpAny_Name (wpAny_loadName_free I.ok.kind hk hc hcell fin hcd) hd
theorem Xal {i j pos}:PE X (.Constant (.int i) j pos) (tC (.int i)):=λ_ _ _ H _ I h=>wpAny_Constant_int ⟨.int i,H,I.tok _,⟨_,rfl⟩,h⟩
theorem Xl3 {b j pos}:PE X (.Constant (.bool b) j pos) (tC (.bl b)):=λ_ _ _ H _ I h=>Constant_bool ⟨.bl b,H,I,rfl,h⟩
theorem Xzl {j pos}:PE X (.Constant .none j pos) (tC .non):=λ_ _ _ H _ I h=>Constant_none ⟨.non,H,I,rfl,h⟩
theorem Xat {x j pos}:PE X (.Constant (.str x) j pos) (tC (.str x)):=λ_ _ _ H _ I h=>Calls.Constant_str ⟨.str x,H,I.tok _,⟨_,rfl⟩,h⟩
def Gl (X:Cx)(x:Str):Prop:=X.env.kindOf x=some .globalImplicit
theorem Xh3 {E:Value->Shared->Prop}{Y:St}{H:Hp}{Q:Value->Shared->Prop}(I:Inv X pins Y H s)(hg:Gl X x)(hm:X.mg x=some u)(h:Q u s)
  (hd:(x==("__debug__":Str))=false:=by decide):wpAny (model X.prog X.w) X.A (eval (.Name x pos) X.env) Q E s:=
 Calls.Name_function_global I.ok.kind hg (Calls.loadGlobal_global (by rw[I.ok.glob];exact I.mod.glob.keeps I.bk) hm h) hd
theorem Xkp {E:Value->Shared->Prop}{Y:St}{H:Hp}{Q:Value->Shared->Prop}(I:Inv X pins Y H s)(hg:Gl X x)(hm:X.mg x=none)(hv:bootBuiltins x=some u)(h:Q u s)
  (hn:x ≠ "__name__":=by decide) (hd:(x==("__debug__":Str))=false:=by decide):wpAny (model X.prog X.w) X.A (eval (.Name x pos) X.env) Q E s:=by
 obtain⟨mb,h1,h2⟩:=I.mod.blt
 exact Calls.Name_function_global I.ok.kind hg (Calls.loadGlobal_builtin (by rw[I.ok.glob];exact I.mod.glob.keeps I.bk) hm (by rw[I.ok.blt];exact h1.keeps I.bk) ((h2 x hn).trans hv) h) hd
theorem Xjp (hg:Gl X x)(hm:X.mg x=some u)(r:Xdh v u)(hd:(x==("__debug__":Str))=false:=by decide):PE X (.Name x pos) (tC v):=
 λ_ _ _ H _ I h=>Xh3 I hg hm ⟨v,H,I,r,h⟩ hd
theorem Xgt (hg:Gl X x)(hm:X.mg x=none)(hv:bootBuiltins x=some u)(r:Xdh v u)(hn:x ≠ "__name__":=by decide)(hd:(x==("__debug__":Str))=false:=by decide):PE X (.Name x pos) (tC v):=
 λ_ _ _ H _ I h=>Xkp I hg hm hv ⟨v,H,I,r,h⟩ hn hd
variable {a b:Expr}{ta tb:TE}{pos:Pos}
def PC (X:Cx)(op:CmpOp)(a b:Expr)(t:TE):Prop:=
 ∀(pins:List (Addr×Obj)) (s:Shared) (Y:St) (H:Hp) (Q:VK),Inv X pins Y H s->t Y H Q->
  wpAny (model X.prog X.w) X.A (eval a X.env) (λv s₁=>wpAny (model X.prog X.w) X.A (eval b X.env) (λu s₂=>wpAny (model X.prog X.w) X.A (compareOp op v u) (EP X pins Y Q) X.xe s₂) X.xe s₁) X.xe s
theorem Ydd (b:Expr){op:CmpOp}(h:op≠.In)(h2:op≠.NotIn):behindInMarks op b=false:=by
 have e1:(op==CmpOp.In)=false:=by cases op<;>first |rfl |exact absurd rfl h
 have e2:(op==CmpOp.NotIn)=false:=by cases op<;>first |rfl |exact absurd rfl h2
 cases b<;>simp[behindInMarks,e1,e2]
def tB (t:TE):TT:=λY H Q=>t Y H λx H1=>∃c,x = .bl c/\Q c H1
theorem Yk3 {op:CmpOp}{t:TE}(h:PC X op a b t)(h1:behindInMarks op b=false:=by first |exact Ydd _ (by decide) (by decide) |rfl):PT X (.Compare a [op] [b] pos) (tB t):=by
 intro pins s Y H Q I hw
 refine wpAny_isTrue_Compare1 (thn (h pins s Y H _ I hw) λv s1 h1=>thn h1 λu s2 h2=>thn h2 λc s3 ⟨x,H1,I1,r1,q1⟩=>?_) h1
 obtain⟨d,rfl,q⟩:=q1
 cases r1
 exact wpAny_truthy_bool ⟨H1,I1,q⟩
theorem Xcv {e:Expr}{t:TE}(h:PE X e t)(he:∀whole,isTrue e X.env whole=(do let v <- whole;standAt e.pos;holding [v] (truthy v)):=by intro _;rfl):PT X e (tB t):=by
 intro pins s Y H Q I hw
 refine isTrue_plain (thn (h pins s Y H _ I hw) λv s1 ⟨x,H1,I1,r1,q1⟩=>?_) (he _)
 obtain⟨d,rfl,q⟩:=q1
 cases r1
 exact wpAny_truthy_bool ⟨H1,I1,q⟩
variable {tA tB':TT}{Xis:List Expr}
def Yoq (t u:TT):TT:=λY H Q=>t Y H λc H1=>if c=true then u Y H1 Q else Q false H1
def tOr (t u:TT):TT:=λY H Q=>t Y H λc H1=>if c=true then Q true H1 else u Y H1 Q
def Yom (t:TT):TT:=λY H Q=>t Y H λc H1=>Q (!c) H1
theorem Xt2 (ha:PT X a tA):PW X (.BoolOp .And [a] pos) tA:=by
 intro wh pins s Y H Q I h
 refine isTrue_and (thn (ha pins s Y H Q I h) λc s1 e=>?_)
 cases c with
 |true=>exact isTrue_and_nil e
 |false=>exact e
theorem Xi8 (ha:PT X a tA):PW X (.BoolOp .Or [a] pos) tA:=by
 intro wh pins s Y H Q I h
 refine isTrue_or (thn (ha pins s Y H Q I h) λc s1 e=>?_)
 cases c with
 |false=>exact isTrue_or_nil e
 |true=>exact e
theorem Xzg (ha:PT X a tA)(hb:PW X (.BoolOp .And (b::Xis) pos) tB'):PW X (.BoolOp .And (a::b::Xis) pos) (Yoq tA tB'):=by
 intro wh pins s Y H Q I h
 refine isTrue_and (thn (ha pins s Y H _ I h) λc s1 ⟨H1,I1,q1⟩=>?_)
 cases c with
 |true=>exact hb wh pins s1 Y H1 Q I1 q1
 |false=>exact⟨H1,I1,q1⟩
theorem Xop (ha:PT X a tA)(hb:PW X (.BoolOp .Or (b::Xis) pos) tB'):PW X (.BoolOp .Or (a::b::Xis) pos) (tOr tA tB'):=by
 intro wh pins s Y H Q I h
 refine isTrue_or (thn (ha pins s Y H _ I h) λc s1 ⟨H1,I1,q1⟩=>?_)
 cases c with
 |true=>exact⟨H1,I1,q1⟩
 |false=>exact hb wh pins s1 Y H1 Q I1 q1
theorem Xey (ha:PT X a tA):PT X (.UnaryOp .Not a pos) (Yom tA):=by
 intro pins s Y H Q I h
 exact isTrue_not (ha pins s Y H (λc H1=>Q (!c) H1) I h)
def Yka (ta tb:TE):TE:=λY H Q=>ta Y H λx H1=>∃c,x = .bl c/\if c=true then tb Y H1 Q else Q (.bl false) H1
def Yj5 (ta:TE):TE:=λY H Q=>ta Y H λx H1=>∃c,x = .bl c/\Q (.bl (!c)) H1
theorem Xsa {op}(h:PE X a t):PE X (.BoolOp op [a] pos) t:=λpins s Y H Q I hw=>BoolOp_one (h pins s Y H Q I hw)
theorem Xsb (ha:PE X a ta)(hb:PE X (.BoolOp .And (b::Xis) pos) tb):PE X (.BoolOp .And (a::b::Xis) pos) (Yka ta tb):=by
 intro pins s Y H Q I h
 refine BoolOp_and (thn (ha pins s Y H _ I h) λv s1 ⟨x,H1,I1,r1,q1⟩=>?_)
 obtain⟨c,rfl,q1⟩:=q1
 cases r1
 refine wpAny_truthy_bool ?_
 cases c with
 |true=>exact hb pins s1 Y H1 Q I1 q1
 |false=>exact⟨.bl false,H1,I1,rfl,q1⟩
theorem Yk7 (ha:PE X a ta):PE X (.UnaryOp .Not a pos) (Yj5 ta):=by
 intro pins s Y H Q I h
 refine UnaryOp_ (thn (ha pins s Y H _ I h) λv s1 ⟨x,H1,I1,r1,q1⟩=>?_)
 obtain⟨c,rfl,q1⟩:=q1
 cases r1
 exact not_of (wpAny_truthy_bool ⟨.bl (!c),H1,I1,rfl,q1⟩)
def tIf (t:TT)(ta tb:TE):TE:=λY H Q=>t Y H λc H1=>if c=true then ta Y H1 Q else tb Y H1 Q
theorem Xqg {c:Expr}(hc:PT X c tA)(ha:PE X a ta)(hb:PE X b tb):PE X (.IfExp c a b pos) (tIf tA ta tb):=by
 intro pins s Y H Q I h
 refine wpAny_IfExp (thn (hc pins s Y H _ I h) λd s1 ⟨H1,I1,q1⟩=>?_)
 cases d with
 |true=>exact ha pins s1 Y H1 Q I1 q1
 |false=>exact hb pins s1 Y H1 Q I1 q1
end
def SqL (K:Frag)(H:Hp)(a:Addr)(xs:List V):Prop:=
 Rd H a (.lst xs)∨
  ∃(o:Obj) (its:Array Value) (n:Nat),K.lookup a=some o/\o.cls = .type "list"/\o.dict=none/\o.data = .seq its n/\its.size<=sizeLine/\Xbz xs its.toList
def SqT (K:Frag)(H:Hp)(a:Addr)(xs:List V):Prop:=
 Rd H a (.tup xs)∨
  ∃(o:Obj) (its:Array Value) (n:Nat),K.lookup a=some o/\o.cls = .type "tuple"/\o.data = .seq its n/\its.size<=sizeLine/\Xbz xs its.toList
def Yp8:Value->Option V
 | .none=>some .non
 | .bool b=>some (.bl b)
 | .int i _=>some (.int i)
 | .str x _=>some (.str x)
 | .bytes b _=>some (.byt b)
 | .float b _=>some (.flt b)
 | .ref a=>some (.ref a)
 | .type n=>some (.ty n)
 |_=>none
theorem Xdh.abs (r:Xdh x u):Yp8 u=some x:=by
 cases x with
 |non=>cases r;rfl
 |bl _=>cases r;rfl
 |int _=>obtain⟨t,rfl⟩:=r;rfl
 |str _=>obtain⟨t,rfl⟩:=r;rfl
 |byt _=>obtain⟨t,rfl⟩:=r;rfl
 |flt _=>obtain⟨t,rfl⟩:=r;rfl
 |ref _=>cases r;rfl
 |ty _=>cases r;rfl
theorem Xdh.inj (r:Xdh x u)(q:Xdh y u):x=y:=Option.some.inj (r.abs.symm.trans q.abs)
theorem Xbz.inj:∀{xs ys:List V} {us:List Value},Xbz xs us->Xbz ys us->xs=ys
 |_,_,_,.nil,.nil=>rfl
 |_,_,_,.cons r t,.cons r' t'=>by rw[r.inj r',Xbz.inj t t']
section
variable {X:Cx}{pins:List (Addr×Obj)}{Y:St}{H:Hp}{s:Shared}{a:Addr}{xs ys:List V}
theorem SqL.of {K:Frag}(h:H a=some (.lst xs)):SqL K H a xs:=.inl (.inl h)
theorem Inv.list (I:Inv X pins Y H s)(h:SqL X.K H a xs):∃its:List Value,Xbz xs its/\PlainL s.heap a its.toArray/\xs.length<=sizeLine:=by
 rcases h with h | ⟨o,its,n,hk,hc,hd,hs,hz,r⟩
 .obtain ⟨z,its,n,r,e⟩:=h.ok I.hok
  exact⟨its,r,⟨_,n,e,rfl,rfl,rfl⟩,z⟩
 .refine ⟨its.toList,r,⟨o,n,I.kIn a o hk,hc,hd,hs⟩,?_⟩
  have e:=r.length
  simp only[length_toList]at e
  lia
theorem Inv.tuple (I:Inv X pins Y H s)(h:SqT X.K H a xs):∃its:List Value,Xbz xs its/\IsTup s.heap a its.toArray/\xs.length<=sizeLine:=by
 rcases h with h | ⟨o,its,n,hk,hc,hs,hz,r⟩
 .obtain ⟨z,its,r,p⟩:=h.ok I.hok
  exact⟨its,r,p,z⟩
 .refine ⟨its.toList,r,⟨o,I.kIn a o hk,hc,n,hs⟩,?_⟩
  have e:=r.length
  simp only[length_toList]at e
  lia
theorem Inv.list_inj (I:Inv X pins Y H s)(h:SqL X.K H a xs)(h':SqL X.K H a ys):xs=ys:=by
 obtain⟨its,r,⟨o,n,e,_,_,d⟩,_⟩:=I.list h
 obtain⟨its',r',⟨o',n',e',_,_,d'⟩,_⟩:=I.list h'
 rw[e]at e';cases e'
 rw[d]at d'
 injection d' with d1 _
 have:its=its':=by simpa using congrArg Array.toList d1
 subst this
 exact r.inj r'
theorem Inv.tuple_inj (I:Inv X pins Y H s)(h:SqT X.K H a xs)(h':SqT X.K H a ys):xs=ys:=by
 obtain⟨its,r,⟨o,e,_,n,d⟩,_⟩:=I.tuple h
 obtain⟨its',r',⟨o',e',_,n',d'⟩,_⟩:=I.tuple h'
 rw[e]at e';cases e'
 rw[d]at d'
 injection d' with d1 _
 have:its=its':=by simpa using congrArg Array.toList d1
 subst this
 exact r.inj r'
end
abbrev Cx.wish (X:Cx)(E:Value->Shared->Prop):Cx:={X with xe:=E}
abbrev Cx.nox (X:Cx):Cx:=X.wish λ_ _=>False
theorem Cx.Ok.wish {X:Cx}(ok:X.Ok)(E:Value->Shared->Prop):(X.wish E).Ok:=
 ⟨ok.mod,ok.kind,ok.glob,ok.blt,ok.above,ok.inj,ok.has,ok.cab,ok.hd,ok.frames,ok.stk,ok.exf,ok.bs,ok.bsz,ok.noex,ok.exfs,ok.funs,ok.frf⟩
theorem Cx.Ok.unwish {X:Cx}{E:Value->Shared->Prop}(ok:(X.wish E).Ok):X.Ok:=
 ⟨ok.mod,ok.kind,ok.glob,ok.blt,ok.above,ok.inj,ok.has,ok.cab,ok.hd,ok.frames,ok.stk,ok.exf,ok.bs,ok.bsz,ok.noex,ok.exfs,ok.funs,ok.frf⟩
section
variable {X:Cx}{pins:List (Addr×Obj)}{Y:St}{H:Hp}{s:Shared}{E:Value->Shared->Prop}
theorem Inv.wish (I:Inv X pins Y H s)(E:Value->Shared->Prop):Inv (X.wish E) pins Y H s:=⟨I.ok.wish E,I.os,I.bare,I.base,I.loc,I.cell,I.free,I.freeC,I.pin,I.hok,I.len⟩
theorem Inv.unwish (I:Inv (X.wish E) pins Y H s):Inv X pins Y H s:=⟨I.ok.unwish,I.os,I.bare,I.base,I.loc,I.cell,I.free,I.freeC,I.pin,I.hok,I.len⟩
theorem SP.unwish (h:SP (X.wish E) pins D f s'):SP X pins D f s':=by
 cases f with
 |next=>obtain⟨Y',H',I,q⟩:=h;exact⟨Y',H',I.unwish,q⟩
 |brk=>obtain⟨Y',H',I,q⟩:=h;exact⟨Y',H',I.unwish,q⟩
 |cont=>obtain⟨Y',H',I,q⟩:=h;exact⟨Y',H',I.unwish,q⟩
 |ret u=>obtain⟨v,Y',H',I,r,q⟩:=h;exact⟨v,Y',H',I.unwish,r,q⟩
theorem PSs.nox {st:List Stmt}{t:TS}(h:PSs X.nox st t):PSs X st t:=λpins s Y H D I hw=>
 wpAny_mono (h pins s Y H D (I.wish _) hw) (λ_ _ q=>q.unwish) λ_ _ z=>False.elim z
end
section
variable {X:Cx}{st:Stmt}{Xis:List Stmt}{t u:TS}{e:Expr}{te:TE}{pos:Pos}
def Yj6:TS:=λD Y H=>D.nx Y H
def Ynf (t u:TS):TS:=λD Y H=>t {D with nx:=u D} Y H
theorem Xa8:PSs X [] Yj6:=λ_ _ Y H _ I h=>wpAny_execs_nil ⟨Y,H,I,h⟩
theorem Xag (h1:PS X st t)(h2:PSs X Xis u):PSs X (st::Xis) (Ynf t u):=by
 intro pins s Y H D I h
 refine wpAny_execs_cons (thn (h1 pins s Y H {D with nx:=u D} I h) λf s1 q=>?_)
 cases f with
 |next=>
  obtain⟨Y',H',I',q⟩:=q
  exact h2 pins s1 Y' H' D I' q
 |ret v=>exact q
 |brk=>exact q
 |cont=>exact q
theorem Xaj (h1:PS X st t):PSs X [st] t:=by
 intro pins s Y H D I h
 refine wpAny_execs_cons (thn (h1 pins s Y H D I h) λf s1 q=>?_)
 cases f with
 |next=>exact wpAny_execs_nil q
 |ret v=>exact q
 |brk=>exact q
 |cont=>exact q
def Yed:TS:=λD Y H=>D.bk Y H
theorem Ycw:PS X (.Break pos) Yed:=λ_ _ Y H _ I h=>wpAny_Break ⟨Y,H,I,h⟩
theorem Inv.quiet {Y:St}{H:Hp}(I:Inv X pins Y H s):interactive X.env=false:=by simp[interactive,I.ok.kind]
def Xpx (te:TE):TS:=λD Y H=>te Y H λ_ H1=>D.nx Y H1
theorem Xbs (he:PE X e te)(hs:swapsWith e none pos.line X.env=pure false:=by rfl):PS X (.Expr e pos) (Xpx te):=by
 intro pins s Y H D I h
 exact wpAny_Expr_any (thn (he pins s Y H _ I h) λv s1 ⟨x,H1,I1,r1,q1⟩=>⟨Y,H1,I1,q1⟩) I.quiet hs
def Yj3 (te:TE):TS:=λD Y H=>te Y H D.rt
theorem Xaz (he:PE X e te):PS X (.Return (some e) pos) (Yj3 te):=by
 intro pins s Y H D I h
 exact wpAny_Return_some (thn (he pins s Y H _ I h) λv s1 ⟨x,H1,I1,r1,q1⟩=>⟨x,Y,H1,I1,r1,q1⟩)
def Yng (c:TT)(t u:TS):TS:=λD Y H=>c Y H λb H1=>if b=true then t D Y H1 else u D Y H1
theorem Xb0 {c:Expr}{a b:List Stmt}{tc:TT}(hc:PT X c tc)(ha:PSs X a t)(hb:PSs X b u):PS X (.If c a b pos) (Yng tc t u):=by
 intro pins s Y H D I h
 refine wpAny_If (thn (hc pins s Y H _ I h) λd s1 ⟨H1,I1,q1⟩=>?_)
 cases d with
 |true=>exact ha pins s1 Y H1 D I1 q1
 |false=>exact hb pins s1 Y H1 D I1 q1
def Yeb:TS:=λ_ _ _=>False
theorem Xmj:PS X st Yeb:=λ_ _ _ _ _ _ h=>h.elim
end
abbrev TG:=V->St->Hp->(St->Hp->Prop)->Prop
abbrev TGs:=List V->St->Hp->(St->Hp->Prop)->Prop
def PG (X:Cx)(target:Expr)(t:TG):Prop:=
 ∀(pins:List (Addr×Obj)) (s:Shared) (Y:St) (H:Hp) (v:V) (u:Value) (Q:St->Hp->Prop),Inv X pins Y H s->Xdh v u->t v Y H Q->
  wpAny (model X.prog X.w) X.A (assign target X.env u) (λ_ s'=>∃Y' H',Inv X pins Y' H' s'/\Q Y' H') X.xe s
def PGs (X:Cx)(ts:List Expr)(t:TGs):Prop:=
 ∀(pins:List (Addr×Obj)) (s:Shared) (Y:St) (H:Hp) (vs:List V) (us:List Value) (Q:St->Hp->Prop),Inv X pins Y H s->Xbz vs us->t vs Y H Q->
  wpAny (model X.prog X.w) X.A (assignInOrder ((assignEach ts X.env).map (·.2)) us) (λ_ s'=>∃Y' H',Inv X pins Y' H' s'/\Q Y' H') X.xe s
abbrev Yjw:=V->V->V->Hp->(Hp->Prop)->Prop
def Yoh (X:Cx)(t:Yjw):Prop:=
 ∀(pins:List (Addr×Obj)) (s:Shared) (Y:St) (H:Hp) (o i v:V) (ov iv u:Value) (Q:Hp->Prop),Inv X pins Y H s->Xdh o ov->Xdh i iv->Xdh v u->t o i v H Q->
  wpAny (model X.prog X.w) X.A (setItem ov iv u) (λ_ s'=>∃H',Inv X pins Y H' s'/\Q H') X.xe s
abbrev TIp:=V->V->Hp->VK->Prop
def PIp (X:Cx)(op:Operator)(t:TIp):Prop:=
 ∀(pins:List (Addr×Obj)) (s:Shared) (Y:St) (H:Hp) (x y:V) (v u:Value) (Q:VK),Inv X pins Y H s->Xdh x v->Xdh y u->t x y H Q->
  wpAny (model X.prog X.w) X.A (inplaceOp op v u) (EP X pins Y Q) X.xe s
section
variable {X:Cx}{pos:Pos}
def Xo2 (i:Nat):TG:=λv Y H Q=>Q (Y.set i (some v)) H
theorem Xbc (hN:X.N.Nodup)(hi:X.N[i]?=some x)(hx:Loc X.env.scope x)(hf:X.fn x=true∨X.env.scope.names.lookup x=some .local:=by first |exact .inl rfl |exact .inr rfl |assumption):PG X (.Name x pos) (Xo2 i):=by
 intro pins s Y H v u Q I r h
 exact wpAny_assign_Name (Xmb I hN hi hx r (λs' I'=>⟨_,H,I',h⟩) hf)
def Yo9:TGs:=λvs Y H Q=>vs=[]/\Q Y H
def Yl6 (t:TG)(u:TGs):TGs:=λvs Y H Q=>∃v r,vs=v::r/\t v Y H λY' H'=>u r Y' H' Q
theorem Xqf:PGs X [] Yo9:=by
 intro pins s Y H vs us Q I r h
 obtain⟨e,h⟩:=h
 subst e
 exact assignInOrder_nil ⟨Y,H,I,h⟩
theorem Xeg {e:Expr}{es:List Expr}{t:TG}{u:TGs}(h1:PG X e t)(h2:PGs X es u)
  (hs:(assignEach (e::es) X.env).map (·.2)=assign e X.env::(assignEach es X.env).map (·.2):=by rfl):PGs X (e::es) (Yl6 t u):=by
 intro pins s Y H vs us Q I r h
 obtain⟨v,vr,e1,h⟩:=h
 subst e1
 cases r with
 |cons r rr=>
  rw[hs]
  refine assignInOrder_cons (thn (h1 pins s Y H _ _ _ I r h) λ_ s1 ⟨Y1,H1,I1,q1⟩=>?_)
  exact h2 pins s1 Y1 H1 _ _ Q I1 rr q1
def Yo8 (K:Frag)(n:Nat)(t:TGs):TG:=λv Y H Q=>∃a xs,v = .ref a/\SqT K H a xs/\xs.length=n/\t xs Y H Q
theorem Xvn (hc:X.calm=true)(h:PGs X es t)
  (hn:(assignEach es X.env).length=n:=by rfl) (hst:(assignEach es X.env).findIdx? (·.1)=none:=by rfl):PG X (.Tuple es k pos) (Yo8 X.K n t):=by
 intro pins s Y H v u Q I r hw
 obtain⟨a,xs,e1,hq,hl,hw⟩:=hw
 subst e1
 cases r
 obtain⟨its,rv,ht,hz⟩:=I.tuple hq
 refine assign_Tuple_tuple (I.ok.hd hc) ht (by simp[hn,<- hl,rv.length]) hst λh' hx=>?_
 have I1:Inv X pins Y H {s with heap:=h'}:=I.kept (t':=s.toks) λb o e=>hx b o (ne_of_lt (lt_size e)) e
 exact h pins _ Y H xs _ Q I1 rv hw
def Ynb (to ti:TE)(t:Yjw):TG:=λv Y H Q=>to Y H λo H1=>ti Y H1 λi H2=>t o i v H2 λH3=>Q Y H3
theorem Xls {o i:Expr}{to ti:TE}{t:Yjw}(ho:PE X o to)(hi:PE X i ti)(hs:Yoh X t)
  (ha:∀v,assign (.Subscript o i pos) X.env v=(do
   let ov <- holding [v] (eval o X.env)
   let iv <- holding [v,ov] (eval i X.env)
   standAt pos
   holding [v,ov,iv] (setItem ov iv v)
   release [v,ov,iv] []):=by intro _;rfl):PG X (.Subscript o i pos) (Ynb to ti t):=by
 intro pins s Y H v u Q I r h
 refine wpAny_bind (wpAny_holding (thn (ho pins s Y H _ I h) λov s1 ⟨x,H1,I1,r1,q1⟩=>?_))
 refine wpAny_bind (wpAny_holding (thn (hi pins s1 Y H1 _ I1 q1) λiv s2 ⟨y,H2,I2,r2,q2⟩=>?_))
 refine wpAny_bind (wpAny_standAt (wpAny_bind (wpAny_holding (thn (hs pins s2 Y H2 x y v ov iv u _ I2 r1 r2 r q2) λ_ s3 ⟨H3,I3,q3⟩=>?_))))
 exact wpAny_release ⟨Y,H3,I3,q3⟩
def Xyg (te:TE)(g:TG):TS:=λD Y H=>te Y H λx H1=>g x Y H1 D.nx
theorem Xke {tg e:Expr}{te:TE}{g:TG}(he:PE X e te)(hg:PG X tg g)(hs:swapsWithSole [tg] e pos.line X.env=pure false:=by rfl)(hw:swappedStores [tg] e X.env=pure none:=by rfl)
  (h1:(assignEach [tg] X.env).map (·.2)=[assign tg X.env]:=by rfl):PS X (.Assign [tg] e pos) (Xyg te g):=by
 intro pins s Y H D I h
 refine wpAny_Assign_stores (thn (he pins s Y H _ I h) λv s1 ⟨x,H1,I1,r1,q1⟩=>?_) hs hw
 rw[h1]
 exact thn (hg pins s1 Y H1 x v _ I1 r1 q1) λ_ s2 q=>q
theorem Xa4 {i:Nat}{x:Str}{e:Expr}{te:TE}{pos':Pos}(hN:X.N.Nodup)(hi:X.N[i]?=some x)(hx:Loc X.env.scope x)(he:PE X e te)(hs:swapsWith e (some (.Name x pos')) pos.line X.env=pure false:=by rfl)(hf:X.fn x=true∨X.env.scope.names.lookup x=some .local:=by first |exact .inl rfl |exact .inr rfl |assumption):
  PS X (.Assign [.Name x pos'] e pos) (Xyg te (Xo2 i)):=by
 intro pins s Y H D I h
 refine wpAny_Assign_Name (thn (he pins s Y H _ I h) λv s1 ⟨y,H1,I1,r1,q1⟩=>?_) hs
 exact Xmb I1 hN hi hx r1 (λs2 I2=>⟨_,H1,I2,q1⟩) hf
def Yop (i:Nat)(te:TE)(ti:TIp):TS:=λD Y H=>∃x,Y[i]?=some (some x)/\te Y H λy H1=>ti x y H1 λz H2=>D.nx (Y.set i (some z)) H2
theorem Yk4 {i:Nat}{x:Str}{e:Expr}{te:TE}{op:Operator}{ti:TIp}{pos':Pos}(hN:X.N.Nodup)(hi:X.N[i]?=some x)(hx:Loc X.env.scope x)(he:PE X e te)(ho:PIp X op ti)(hf:X.fn x=true∨X.env.scope.names.lookup x=some .local:=by first |exact .inl rfl |exact .inr rfl |assumption):
  PS X (.AugAssign (.Name x pos') op e pos) (Yop i te ti):=by
 intro pins s Y H D I h
 obtain⟨v,e1,h⟩:=h
 obtain⟨m,hn,hl⟩:=I.loc
 have vis:Vis X.env.scope x:=by rcases hx with k |k;exact .inl k;exact .inr (.inl k)
 obtain⟨u,r,l⟩:=hl i x v hi e1 vis
 refine wpAny_AugAssign_Name ?_
 have go:wpAny (model X.prog X.w) X.A (eval e X.env) (λw s₂=>wpAny (model X.prog X.w) X.A (inplaceOp op u w) (λr s₃=>wpAny (model X.prog X.w) X.A (storeName X.env x r) (λ_=>SP X pins D .next) X.xe s₃) X.xe s₂) X.xe s:=by
  refine thn (he pins s Y H _ I h) λw s1 ⟨y,H1,I1,r1,q1⟩=>?_
  refine thn (ho pins s1 Y H1 v y u w _ I1 r r1 q1) λz s2 ⟨zv,H2,I2,r2,q2⟩=>?_
  exact Xmb I2 hN hi hx r2 (λs3 I3=>⟨_,H2,I3,q2⟩) hf
 rcases l with⟨hk,hm⟩ | ⟨hk,c,hc,hcell⟩
 .exact wpAny_loadName_local I.ok.kind hk hn hm go
 .rcases hk with hk |hk
  .exact wpAny_loadName_cell I.ok.kind hk hc hcell go
  .rcases hx with k |k
   .have:X.env.scope.names.lookup x=some .free:=hk
    rw[k]at this;cases this
   .have:X.env.scope.names.lookup x=some .free:=hk
    rw[k]at this;cases this
def Yj9 (to ti te:TE)(tget:V->V->Hp->VK->Prop)(tip:TIp)(tset:Yjw):TS:=λD Y H=>to Y H λo H1=>ti Y H1 λi H2=>tget o i H2 λx H3=>te Y H3 λy H4=>tip x y H4 λz H5=>tset o i z H5 λH6=>D.nx Y H6
def Ypm (X:Cx)(t:V->V->Hp->VK->Prop):Prop:=
 ∀(pins:List (Addr×Obj)) (s:Shared) (Y:St) (H:Hp) (o i:V) (ov iv:Value) (Q:VK),Inv X pins Y H s->Xdh o ov->Xdh i iv->t o i H Q->
  wpAny (model X.prog X.w) X.A (getItem ov iv) (EP X pins Y Q) X.xe s
theorem Yhk {o i e:Expr}{to ti te:TE}{tget:V->V->Hp->VK->Prop}{tip:TIp}{tset:Yjw}{op:Operator}{tpos:Pos}(ho:PE X o to)(hi:PE X i ti)(hg:Ypm X tget)(he:PE X e te)(hp:PIp X op tip)(hs:Yoh X tset)
  (ha:∀ov iv new,augStore i ov iv new=(do holding [new,ov,iv] (setItem ov iv new);release [new,ov,iv] [];pure .next):=by intros;rfl):PS X (.AugAssign (.Subscript o i tpos) op e pos) (Yj9 to ti te tget tip tset):=by
 intro pins s Y H D I h
 refine wpAny_AugAssign_SubscriptAny (thn (ho pins s Y H _ I h) λov s1 ⟨x1,H1,I1,r1,q1⟩=>?_) ha
 refine thn (hi pins s1 Y H1 _ I1 q1) λiv s2 ⟨x2,H2,I2,r2,q2⟩=>?_
 refine thn (hg pins s2 Y H2 x1 x2 ov iv _ I2 r1 r2 q2) λold s3 ⟨x3,H3,I3,r3,q3⟩=>?_
 refine thn (he pins s3 Y H3 _ I3 q3) λv s4 ⟨x4,H4,I4,r4,q4⟩=>?_
 refine thn (hp pins s4 Y H4 x3 x4 old v _ I4 r3 r4 q4) λnew s5 ⟨x5,H5,I5,r5,q5⟩=>?_
 exact thn (hs pins s5 Y H5 x1 x2 x5 ov iv new _ I5 r1 r2 r5 q5) λ_ s6 ⟨H6,I6,q6⟩=>⟨Y,H6,I6,q6⟩
def ipI (f:Int->Int->Int):TIp:=λx y H Q=>∃i j,x = .int i/\y = .int j/\Q (.int (f i j)) H
theorem Yfe:PIp X .Add (ipI λi j=>i+j):=by
 intro pins s Y H x y v u Q I r1 r2 h
 obtain⟨i,j,e1,e2,q⟩:=h
 subst e1;subst e2
 obtain⟨t,rfl⟩:=r1
 obtain⟨t',rfl⟩:=r2
 exact iadd_int ⟨.int _,H,I.tok _,⟨_,rfl⟩,q⟩
end
section
variable {X:Cx}{pos:Pos}
def Yd9 (c:TT)(tb:TS):TS:=λD Y H=>∃W:Nat->St->Hp->Prop,(∃m,W m Y H)/\∀m Y H,W m Y H->
 c Y H λb H1=>if b=true then ∃N:St->Hp->Prop,(∀Y' H',N Y' H'->∃m',m'<m/\W m' Y' H')/\tb {D with nx:=N,ct:=N,bk:=D.nx} Y H1 else D.nx Y H1
theorem Xvl {c:Expr}{body:List Stmt}{tc:TT}{tb:TS}(hp:PassesOwn (model X.prog X.w) X.A X.env X.xe)(hc:PT X c tc)(hb:PSs X body tb):PS X (.While c body [] pos) (Yd9 tc tb):=by
 intro pins s Y H D I h
 obtain⟨W,⟨m0,w0⟩,turn⟩:=h
 refine wpAny_While (codeAny_whileLoop (λn s'=>∃Y' H',Inv X pins Y' H' s'/\W n Y' H') ?_ m0 ⟨Y,H,I,w0⟩)
 rintro n s1 ⟨Y1,H1,I1,w1⟩
 refine wpAny_passesOwn hp (thn (hc pins s1 Y1 H1 _ I1 (turn n Y1 H1 w1)) λb s2 ⟨H2,I2,q2⟩=>?_)
 cases b with
 |true=>
  obtain⟨N,hN,q2⟩:=q2
  refine wpAny_passesOwn hp (thn (hb pins s2 Y1 H2 _ I2 q2) λf s3 q3=>?_)
  cases f with
  |next=>
   obtain⟨Y3,H3,I3,n3⟩:=q3
   obtain⟨m',hm,w3⟩:=hN Y3 H3 n3
   exact⟨m',hm,Y3,H3,I3,w3⟩
  |cont=>
   obtain⟨Y3,H3,I3,n3⟩:=q3
   obtain⟨m',hm,w3⟩:=hN Y3 H3 n3
   exact⟨m',hm,Y3,H3,I3,w3⟩
  |brk=>exact q3
  |ret v=>exact q3
 |false=>
  exact wpAny_execs_nil ⟨Y1,H2,I2,q2⟩
end
structure It where
 go:Nat->Hp->Prop
 yld:Nat->Hp->V->Hp->Prop
 stop:Nat->Hp->Prop
def Xmt (X:Cx)(pins:List (Addr×Obj))(H:Hp)(b:Addr):Prop:=
 H b=none/\b≠X.env.locals/\b∉X.fs/\(b∈X.ex∨X.s₀.heap.objs.size<=b)/\(∀x c,X.env.cells.lookup x=some c->c≠b)/\∀p∈X.pn++pins,p.1≠b
theorem Inv.fpOk {Y:St}{H:Hp}(I:Inv X pins Y H s)(hb:s.heap.objs.size<=b)(hn:H' b=none):Xmt X pins H' b:=by
 refine⟨hn,ne_of_gt (lt_of_lt_of_le I.lt hb),I.nofs hb,.inr (le_trans I.sz hb),λx c e z=>?_,λp hp z=>?_⟩
 .obtain ⟨v,q⟩:=I.cell x c e
  exact absurd (lt_of_lt_of_le q.lt (by rw[z];exact hb)) (lt_irrefl _)
 .exact absurd (lt_of_lt_of_le (lt_size (I.pin p hp).1) (by rw[z];exact hb)) (lt_irrefl _)
structure Turn (P:Program) (w:World) (K:Frag) (tg:Expr) (J:It) (fp:List Addr) (it:Addr) (tn:Nat->Heap->Prop):Prop where
 mem:it∈fp
 obj:∀i h,tn i h->∀b∈fp,∃o,h.get? b=some o/\∀v,o.data≠.cell v
 keep:∀i h h',tn i h->(∀b∈fp,∀o,h.get? b=some o->h'.get? b=some o)->tn i h'
 item:∀(X:Cx),X.prog=P->X.w=w->X.K=K->X.calm=true->∀(i:Nat) (pins:List (Addr×Obj)) (s:Shared) (Y:St) (H:Hp) (E:Value->Shared->Prop),Inv X pins Y H s->(∀b∈fp,Xmt X pins H b)->tn i s.heap->J.go i H->
  wpAny (model P w) X.A (pyNext (.ref it)) (λr s1=>∃u,r=some u/\
   wpAny (model P w) X.A (letOwnedTupleGo tg (.ref it) u) (λ_ s2=>∃x H',Inv X pins Y H' s2/\Xdh x u/\J.yld i H x H'/\tn (i+1) s2.heap/\∀b∈fp,H' b=none) E s1) E s
 done:∀(X:Cx),X.prog=P->X.w=w->X.K=K->X.calm=true->∀(i:Nat) (pins:List (Addr×Obj)) (s:Shared) (Y:St) (H:Hp) (E:Value->Shared->Prop),Inv X pins Y H s->(∀b∈fp,Xmt X pins H b)->tn i s.heap->J.stop i H->
  wpAny (model P w) X.A (pyNext (.ref it)) (λr s1=>r=none/\Inv X pins Y H s1) E s
 self:∀(A:Around) (i:Nat) (s:Shared) (Q:Value->Shared->Prop) (E:Value->Shared->Prop),tn i s.heap->Q (.ref it) s->wpAny (model P w) A (pyIter (.ref it)) Q E s
abbrev TI:=St->Hp->(It->Hp->Prop)->Prop
def PIE (X:Cx)(pins:List (Addr×Obj))(Y:St)(tg:Expr)(R:It->Hp->Prop)(itv:Value)(s2:Shared):Prop:=
 ∃(it:Addr) (fp:List Addr) (tn:Nat->Heap->Prop) (J:It) (H':Hp),itv = .ref it/\Inv X pins Y H' s2/\Turn X.prog X.w X.K tg J fp it tn/\tn 0 s2.heap/\(∀b∈fp,Xmt X pins H' b)/\R J H'
def PI (X:Cx)(tg iter:Expr)(wi:TI):Prop:=
 ∀(pins:List (Addr×Obj)) (s:Shared) (Y:St) (H:Hp) (R:It->Hp->Prop),Inv X pins Y H s->wi Y H R->
  wpAny (model X.prog X.w) X.A (eval iter X.env) (λv s1=>wpAny (model X.prog X.w) X.A (pyIter v) (PIE X pins Y tg R) X.xe s1) X.xe s
theorem Xui {A:Around}{E:Value->Shared->Prop}{Q:Unit->Shared->Prop}(ho:s.heap.get? it=some o)(hc:o.cls = .type n)(hd:o.data = .fields vs)
  (hn:["enumerate","zip","dict_itemiterator","dict_reverseitemiterator","odict_iterator","itertools.zip_longest","itertools.pairwise"].contains n=false) (hQ:Q () s):wpAny M A (letOwnedTupleGo tg (.ref it) u) Q E s:=by
 cases tg <;> first
  |exact wpAny_pure hQ
  | (cases u<;>first
    |exact wpAny_pure hQ
    | (refine wpAny_bind (wpAny_load ho ?_)
       rw[hc,hd]
       show wpAny M A (if (["enumerate","zip","dict_itemiterator","dict_reverseitemiterator","odict_iterator","itertools.zip_longest","itertools.pairwise"].contains n && vs[0]?==some (rawInt _))=true then _ else _) Q E s
       rw[if_neg (by intro h;rw[hn]at h;cases h)]
       exact wpAny_pure hQ))
def Itl (K:Frag)(a:Addr):It:=
 ⟨λi H=>∃xs x,SqL K H a xs/\xs[i]?=some x,λi H x H'=>H'=H/\∀xs,SqL K H a xs->xs[i]?=some x,λi H=>∃xs,SqL K H a xs/\xs.length<=i⟩
def Itt (K:Frag)(a:Addr):It:=
 ⟨λi H=>∃xs x,SqT K H a xs/\xs[i]?=some x,λi H x H'=>H'=H/\∀xs,SqT K H a xs->xs[i]?=some x,λi H=>∃xs,SqT K H a xs/\xs.length<=i⟩
def Itr (lo:Int)(n:Nat):It:=⟨λi _=>i<n,λi H x H'=>H'=H/\x = .int (lo+i),λi _=>n<=i⟩
theorem Xx7 {P:Program}{w:World}{K:Frag}{tg:Expr}(a it:Addr):Turn P w K tg (Itl K a) [it] it (λi h=>h.IsListIter it a i) where
 mem:=by simp
 obj:=λi h st b hb=>by
  have e:b=it:=by simpa using hb
  subst e
  obtain⟨o,e,c,d⟩:=st
  exact⟨o,e,λv z=>by rw[d]at z;cases z⟩
 keep:=λi h h' st k=>st.at λo e=>k it (by simp) o e
 item:=by
  kj_on
  obtain⟨xs,x,hq,hx⟩:=hg
  obtain⟨its,rv,p,hz⟩:=I.list hq
  obtain⟨u,hu,ru⟩:=rv.get hx
  obtain⟨f0,f1,f2,f3,f4,f5⟩:=hf it (by simp)
  refine wpAny_pyNext_list_item st p.isList (by simpa using hu) λh' st' sb=>?_
  have I1:Inv X pins Y H {s with heap:=h'}:=I.turned (t':=s.toks) (λb o hb e=>(sb.2 b hb).trans e) f0 f1 f3 f4 f5
  obtain⟨o,e,c,d⟩:=id st'
  exact⟨u,rfl,Xui (s:={s with heap:=h'}) e c d rfl ⟨x,H,I1,ru,⟨rfl,λys hy=>by rw[I.list_inj hy hq];exact hx⟩,st',λb hb=>(hf b hb).1⟩⟩
 done:=by
  kj_on
  obtain⟨xs,hq,hx⟩:=hg
  obtain⟨its,rv,p,hz⟩:=I.list hq
  obtain⟨f0,f1,f2,f3,f4,f5⟩:=hf it (by simp)
  have hl:=rv.length
  exact wpAny_pyNext_list_end (I.ok.hd hc) st p.isList (by simp;lia) λh' eb=>⟨rfl,I.turned (t':=s.toks) (λb o hb e=>eb b o hb e) f0 f1 f3 f4 f5⟩
 self:=λ_ _ _ _ _ st h=>wpAny_pyIter_listiter st h
theorem Xwj {P:Program}{w:World}{K:Frag}{tg:Expr}(a it:Addr):Turn P w K tg (Itt K a) [it] it (λi h=>h.IsTupleIter it a i) where
 mem:=by simp
 obj:=λi h st b hb=>by
  have e:b=it:=by simpa using hb
  subst e
  obtain⟨o,e,c,d⟩:=st
  exact⟨o,e,λv z=>by rw[d]at z;cases z⟩
 keep:=λi h h' st k=>st.at λo e=>k it (by simp) o e
 item:=by
  kj_on
  obtain⟨xs,x,hq,hx⟩:=hg
  obtain⟨its,rv,p,hz⟩:=I.tuple hq
  obtain⟨u,hu,ru⟩:=rv.get hx
  obtain⟨f0,f1,f2,f3,f4,f5⟩:=hf it (by simp)
  refine wpAny_pyNext_tuple_item st (show s.heap.IsTuple a its.toArray from p) (by simpa using hu) λh' st' sb=>?_
  have I1:Inv X pins Y H {s with heap:=h'}:=I.turned (t':=s.toks) (λb o hb e=>(sb.2 b hb).trans e) f0 f1 f3 f4 f5
  obtain⟨o,e,c,d⟩:=id st'
  exact⟨u,rfl,Xui (s:={s with heap:=h'}) e c d rfl ⟨x,H,I1,ru,⟨rfl,λys hy=>by rw[I.tuple_inj hy hq];exact hx⟩,st',λb hb=>(hf b hb).1⟩⟩
 done:=by
  kj_on
  obtain⟨xs,hq,hx⟩:=hg
  obtain⟨its,rv,p,hz⟩:=I.tuple hq
  obtain⟨f0,f1,f2,f3,f4,f5⟩:=hf it (by simp)
  have hl:=rv.length
  exact wpAny_pyNext_tuple_end (I.ok.hd hc) st (show s.heap.IsTuple a its.toArray from p) (by simp;lia) λh' eb=>⟨rfl,I.turned (t':=s.toks) (λb o hb e=>eb b o hb e) f0 f1 f3 f4 f5⟩
 self:=λ_ _ _ _ _ st h=>wpAny_pyIter_tupleiter st h
theorem Xwk {P:Program}{w:World}{K:Frag}{tg:Expr}(it:Addr)(lo:Int)(n:Nat):Turn P w K tg (Itr lo n) [it] it (λi h=>IsRangeIter h it (lo+(i:Nat)*1) ((n:Int)-(i:Nat)) 1) where
 mem:=by simp
 obj := λi h st b hb=>by
  have e:b=it:=by simpa using hb
  subst e
  exact⟨_,st,λv z=>by
   have z':Data.fields _=Data.cell v:=z
   cases z'⟩
 keep:=λi h h' st k=>k it (by simp) _ st
 item:=by
  kj_on
  obtain⟨f0,f1,f2,f3,f4,f5⟩:=hf it (by simp)
  have W:=Walks.range (prog:=X.prog) (w:=X.w) (I.ok.hd hc) it lo 1 n
  refine W.item i s _ _ hg st λv h' tk hv st' kk=>?_
  obtain⟨t,rfl⟩:=hv
  have I1:Inv X pins Y H {s with heap:=h',toks:=tk}:=I.turned (λb o hb e=>kk b o (by simpa using hb) e) f0 f1 f3 f4 f5
  refine⟨_,rfl,Xui (s:={s with heap:=h',toks:=tk}) (n := "range_iterator") st' rfl rfl rfl ⟨.int (lo+i),H,I1,⟨t,?_⟩,⟨rfl,rfl⟩,st',λb hb=>(hf b hb).1⟩⟩
  rw[mul_one]
 done:=by
  intro X hP hw hK hc i pins s Y H E I hf st hg
  obtain⟨f0,f1,f2,f3,f4,f5⟩:=hf it (by simp)
  exact wpAny_pyNext_range_end (I.ok.hd hc) st (by have:n<=i:=hg;lia) λh' eb=>⟨rfl,I.turned (t':=s.toks) (λb o hb e=>eb b o hb e) f0 f1 f3 f4 f5⟩
 self:=λ_ _ _ _ _ st h=>wpAny_pyIter_rangeiter st h
section
variable {X:Cx}{tg:Expr}
def Yir (K:Frag)(tl:TE):TI:=λY H R=>tl Y H λx H1=>∃a,x = .ref a/\(∃xs,SqL K H1 a xs)/\R (Itl K a) H1
def Yo5 (K:Frag)(tl:TE):TI:=λY H R=>tl Y H λx H1=>∃a,x = .ref a/\(∃xs,SqT K H1 a xs)/\R (Itt K a) H1
theorem Xfj {l:Expr}{tl:TE}(hl:PE X l tl):PI X tg l (Yir X.K tl):=by
 intro pins s Y H R I h
 refine thn (hl pins s Y H _ I h) λv s1 ⟨x,H1,I1,r1,q1⟩=>?_
 obtain⟨a,e,⟨xs,hq⟩,q⟩:=q1
 subst e
 cases r1
 obtain⟨its,rv,p,hz⟩:=I1.list hq
 refine wpAny_pyIter_list p.isList ?_
 refine⟨s1.heap.objs.size,[s1.heap.objs.size],_,_,H1,rfl,I1.kept (t':=s1.toks) λb o e=>get?_push_of_some _ e,Xx7 a _,⟨_,get?_push_size _ rfl,rfl,rfl⟩,λb hb=>?_,q⟩
 have e:b=s1.heap.objs.size:=by simpa using hb
 subst e
 exact I1.fpOk (Nat.le_refl _) (I1.hok.fresh (Nat.le_refl _))
theorem Xr8 {l:Expr}{tl:TE}(hl:PE X l tl):PI X tg l (Yo5 X.K tl):=by
 intro pins s Y H R I h
 refine thn (hl pins s Y H _ I h) λv s1 ⟨x,H1,I1,r1,q1⟩=>?_
 obtain⟨a,e,⟨xs,hq⟩,q⟩:=q1
 subst e
 cases r1
 obtain⟨its,rv,p,hz⟩:=I1.tuple hq
 refine wpAny_pyIter_tuple (show s1.heap.IsTuple a its.toArray from p) ?_
 refine⟨s1.heap.objs.size,[s1.heap.objs.size],_,_,H1,rfl,I1.kept (t':=s1.toks) λb o e=>get?_push_of_some _ e,Xwj a _,⟨_,get?_push_size _ rfl,rfl,rfl⟩,λb hb=>?_,q⟩
 have e:b=s1.heap.objs.size:=by simpa using hb
 subst e
 exact I1.fpOk (Nat.le_refl _) (I1.hok.fresh (Nat.le_refl _))
theorem Ycr {pins:List (Addr×Obj)}{Y:St}{H:Hp}{s:Shared}{R:It->Hp->Prop}{E:Value->Shared->Prop}{lo hi:Int}{t u v:Tok}{tk:Nat}(I:Inv X pins Y H s)(h1 : -(2^62)<=lo)(h2:lo<2^62)(h3 : -(2^62)<=hi)(h4:hi<2^62)
  (q:R (Itr lo (hi-lo).toNat) H):wpAny (model X.prog X.w) X.A (pyIter (.ref s.heap.objs.size)) (PIE X pins Y tg R) E {s with heap:=s.heap.push {cls:=.type "range",data:=.fields #[.int lo t,.int hi u,.int 1 v]},toks:=tk}:=by
 refine wpAny_pyIter_range (IsRange.new ..) (small_one h1 h2 h3 h4) ?_
 have I1:Inv X pins Y H {s with heap:=s.heap.push {cls:=.type "range",data:=.fields #[.int lo t,.int hi u,.int 1 v]},toks:=tk}:=I.kept λb o e=>get?_push_of_some _ e
 refine⟨(s.heap.push {cls:=.type "range",data:=.fields #[.int lo t,.int hi u,.int 1 v]}).objs.size,[(s.heap.push {cls:=.type "range",data:=.fields #[.int lo t,.int hi u,.int 1 v]}).objs.size],_,_,H,rfl,
  I1.kept (t':=tk) λb o e=>get?_push_of_some _ e,Xwk _ lo (hi-lo).toNat,?_,λb hb=>?_,q⟩
 .have e1:lo+((0:Nat):Int)*1=lo:=by simp
  have e2:(((hi-lo).toNat:Nat):Int)-((0:Nat):Int)=Builtin.Range.rangeSize lo hi 1:=by rw[rangeSize_one];split<;>lia
  rw[e1,e2]
  exact get?_push_size _ rfl
 .have e:b=(s.heap.push {cls:=.type "range",data:=.fields #[.int lo t,.int hi u,.int 1 v]}).objs.size:=by simpa using hb
  subst e
  exact I1.fpOk (Nat.le_refl _) (I1.hok.fresh (Nat.le_refl _))
def Yl4 (ta:TA):TI:=λY H R=>ta Y H λvs H1=>∃j:Int,vs=[.int j]/\-(2^62)<=j/\j<2^62/\R (Itr 0 j.toNat) H1
theorem Xde (hg:Gl X "range")(hm:X.mg "range"=none)(ha:PA X [a] ta)(hs:starEach [a] X.env=[(false,eval a X.env)]:=by rfl):PI X tg (.Call (.Name "range" p) [a] [] pos) (Yl4 ta):=by
 intro pins s Y H R I h
 refine Call_ (Xkp I hg hm boot_range (PyProof.Rows.callWith_type1 (thn (ha pos pins s Y H _ I h) λus s1 ⟨vs,H1,I1,r1,q1⟩=>?_) hs rfl))
 obtain⟨j,e,q1,q2,q⟩:=q1
 subst e
 cases r1 with
 |cons r rr=>
  cases rr
  obtain⟨t,rfl⟩:=r
  exact call_range_1 (Ycr I1 (by lia) (by lia) q1 q2 (by simpa using q))
def Yoo (wi:TI)(g:TG)(tb:TS):TS:=λD Y H=>wi Y H λJ H1=>∃W:Nat->Nat->St->Hp->Prop,(∃m,W 0 m Y H1)/\∀i m Y H,W i m Y H->
 (J.stop i H/\D.nx Y H)∨(J.go i H/\∃N:St->Hp->Prop,(∀Y' H',N Y' H'->∃m',m'<m/\W (i+1) m' Y' H')/\∀x H',J.yld i H x H'->g x Y H' λY2 H2=>tb {D with nx:=N,ct:=N,bk:=D.nx} Y2 H2)
def Xvm (fp:List Addr)(h:Heap):List (Addr×Obj):=fp.filterMap λb=>(h.get? b).map λo=>(b,o)
theorem Xem (hb:b∈fp)(e:h.get? b=some o):(b,o)∈Xvm fp h:=mem_filterMap.mpr ⟨b,hb,by rw[e];rfl⟩
theorem Xz2 (hp:p∈Xvm fp h):p.1∈fp/\h.get? p.1=some p.2:=by
 obtain⟨b,hb,e⟩:=mem_filterMap.mp hp
 cases q:h.get? b with
 |none=>rw[q]at e;cases e
 |some o=>
  rw[q]at e
  have e':(b,o)=p:=Option.some.inj e
  subst e'
  exact⟨hb,q⟩
theorem Inv.pinned {Y:St}{H:Hp}(I:Inv X pins Y H s)(hf:∀b∈fp,Xmt X pins H b)(ho:∀b∈fp,∃o,s.heap.get? b=some o/\∀v,o.data≠.cell v):Inv X (pins++Xvm fp s.heap) Y H s:=
 I.pins_of λp hp=>(mem_append.mp hp).elim (λz=>I.pin p (mem_append_right _ z)) λz=>by
  obtain⟨hb,e⟩:=Xz2 z
  obtain⟨f0,f1,f2,_⟩:=hf p.1 hb
  obtain⟨o,e',d⟩:=ho p.1 hb
  rw[e]at e';cases e'
  exact⟨e,f0,f1,f2,d⟩
theorem Inv.unpinned {Y:St}{H:Hp}(I:Inv X (pins++pl) Y H s):Inv X pins Y H s:=I.pins_of λp hp=>I.pin p (mem_append_right _ (mem_append_left _ hp))
theorem Xfz (hp:PassesOwn (model X.prog X.w) X.A X.env X.xe)(hc:X.calm=true)(hi:PI X tg iter wi)(hg:PG X tg g)(hb:PSs X body tb)
  (hs:∀x,foldedSetIterable iter X.env x=pure x:=by intro _;rfl):PS X (.For tg iter body [] pos) (Yoo wi g tb):=by
 intro pins s Y H D I h
 refine wpAny_For (thn (hi pins s Y H _ I h) λv s1 h1=>thn h1 λitv s2 h2=>?_) hs
 obtain⟨it,fp,tn,J,H2,e,I2,T,st2,f2,W,⟨m0,w0⟩,turn⟩:=h2
 subst e
 have stat:∀{H':Hp},(∀b∈fp,H' b=none)->∀b∈fp,Xmt X pins H' b:=λhn b hb=>⟨hn b hb,(f2 b hb).2⟩
 refine codeAny_forLoop_any (λn s'=>∃i Y' H',Inv X pins Y' H' s'/\tn i s'.heap/\(∀b∈fp,H' b=none)/\W i n Y' H') ?_ m0 ⟨0,Y,H2,I2,st2,λb hb=>(f2 b hb).1,w0⟩
 rintro n s3 ⟨i,Y3,H3,I3,st3,fr3,w3⟩
 rcases turn i n Y3 H3 w3 with⟨stop,qn⟩ | ⟨go,N,hN,step⟩
 .refine wpAny_passesOwn hp (thn (T.done X rfl rfl rfl hc i pins s3 Y3 H3 X.xe I3 (stat fr3) st3 stop) λr s4 ⟨hr,I4⟩=>?_)
  subst hr
  exact wpAny_execs_nil ⟨Y3,H3,I4,qn⟩
 .refine wpAny_passesOwn hp (thn (T.item X rfl rfl rfl hc i pins s3 Y3 H3 X.xe I3 (stat fr3) st3 go) λr s4 ⟨u,hr,h4⟩=>?_)
  subst hr
  refine wpAny_passesOwn hp (thn h4 λ_ s5 ⟨x,H5,I5,r5,y5,st5,fr5⟩=>?_)
  have I5':=I5.pinned (stat fr5) (T.obj _ _ st5)
  refine wpAny_passesOwn hp (thn (hg _ s5 Y3 H5 x u _ I5' r5 (step x H5 y5)) λ_ s6 ⟨Y6,H6,I6,q6⟩=>?_)
  refine wpAny_passesOwn hp (thn (hb _ s6 Y6 H6 _ I6 q6) λf s7 q7=>?_)
  have again:∀{Y7:St} {H7:Hp},Inv X (pins++Xvm fp s5.heap) Y7 H7 s7->N Y7 H7->∃m,m<n/\∃i Y' H',Inv X pins Y' H' s7/\tn i s7.heap/\(∀b∈fp,H' b=none)/\W i m Y' H':=λ{Y7 H7} I7 n7=>by
   obtain⟨m',hm,w7⟩:=hN Y7 H7 n7
   refine⟨m',hm,i+1,Y7,H7,I7.unpinned,T.keep _ _ _ st5 λb hb o e=>(I7.pin (b,o) (mem_append_right _ (mem_append_right _ (Xem hb e)))).1,λb hb=>?_,w7⟩
   obtain⟨o,e,d⟩:=T.obj _ _ st5 b hb
   exact (I7.pin (b,o) (mem_append_right _ (mem_append_right _ (Xem hb e)))).2.1
  cases f with
  |next=>obtain⟨Y7,H7,I7,n7⟩:=q7;exact again I7 n7
  |cont=>obtain⟨Y7,H7,I7,n7⟩:=q7;exact again I7 n7
  |brk=>obtain⟨Y7,H7,I7,q7⟩:=q7;exact⟨Y7,H7,I7.unpinned,q7⟩
  |ret v=>obtain⟨x7,Y7,H7,I7,r7,q7⟩:=q7;exact⟨x7,Y7,H7,I7.unpinned,r7,q7⟩
end
abbrev R2:=V->V->Hp->VK->Prop
def OpR (X:Cx)(f:Value->Value->Sem Value)(r:R2):Prop:=
 ∀(pins:List (Addr×Obj)) (s:Shared) (Y:St) (H:Hp) (x y:V) (v u:Value) (Q:VK),Inv X pins Y H s->Xdh x v->Xdh y u->r x y H Q->
  wpAny (model X.prog X.w) X.A (f v u) (EP X pins Y Q) X.xe s
def UnR (X:Cx)(f:Value->Sem Value)(r:V->Hp->VK->Prop):Prop:=
 ∀(pins:List (Addr×Obj)) (s:Shared) (Y:St) (H:Hp) (x:V) (v:Value) (Q:VK),Inv X pins Y H s->Xdh x v->r x H Q->
  wpAny (model X.prog X.w) X.A (f v) (EP X pins Y Q) X.xe s
def Xhb (X:Cx)(f:Value)(r:List V->Hp->VK->Prop):Prop:=
 ∀(pins:List (Addr×Obj)) (s:Shared) (Y:St) (H:Hp) (xs:List V) (us:List Value) (Q:VK),Inv X pins Y H s->Xbz xs us->r xs H Q->
  wpAny (model X.prog X.w) X.A (call f us) (EP X pins Y Q) X.xe s
def Yp9 (X:Cx)(r:V->Hp->(Bool->Hp->Prop)->Prop):Prop:=
 ∀(pins:List (Addr×Obj)) (s:Shared) (Y:St) (H:Hp) (x:V) (v:Value) (Q:Bool->Hp->Prop),Inv X pins Y H s->Xdh x v->r x H Q->
  wpAny (model X.prog X.w) X.A (truthy v) (TP X pins Y Q) X.xe s
def tOp (r:R2)(ta tb:TE):TE:=λY H Q=>ta Y H λx H1=>tb Y H1 λy H2=>r x y H2 Q
def tUn (r:V->Hp->VK->Prop)(ta:TE):TE:=λY H Q=>ta Y H λx H1=>r x H1 Q
def rI (C:Int->Int->Prop)(g:Int->Int->V):R2:=λx y H Q=>∃i j,x = .int i/\y = .int j/\C i j/\Q (g i j) H
def rI0 (g:Int->Int->V):R2:=λx y H Q=>∃i j,x = .int i/\y = .int j/\Q (g i j) H
def rU (g:Int->V):V->Hp->VK->Prop:=λx H Q=>∃i,x = .int i/\Q (g i) H
section
variable {X:Cx}{a b c:Expr}{ta tb tc:TE}{pos:Pos}
theorem Yob (ha:PE X a ta)(hb:PE X b tb){Y:St}{H:Hp}{R:V->V->Hp->Prop}(I:Inv X pins Y H s)
  (h:ta Y H λx H1=>tb Y H1 λy H2=>R x y H2) {Q:Value->Shared->Prop} {f:Value->Value->Sem Value}
  (hf:∀v u s2 x y H2,Inv X pins Y H2 s2->Xdh x v->Xdh y u->R x y H2->wpAny (model X.prog X.w) X.A (f v u) Q X.xe s2):
  wpAny (model X.prog X.w) X.A (eval a X.env) (λv s₁=>wpAny (model X.prog X.w) X.A (eval b X.env) (λu s₂=>wpAny (model X.prog X.w) X.A (f v u) Q X.xe s₂) X.xe s₁) X.xe s:=by
 refine thn (ha pins s Y H _ I h) λv s1 ⟨x,H1,I1,r1,q1⟩=>?_
 refine thn (hb pins s1 Y H1 _ I1 q1) λu s2 ⟨y,H2,I2,r2,q2⟩=>?_
 exact hf v u s2 x y H2 I2 r1 r2 q2
theorem Xaw (ho:OpR X (binaryOp op) r)(ha:PE X a ta)(hb:PE X b tb):PE X (.BinOp a op b pos) (tOp r ta tb):=by
 intro pins s Y H Q I h
 exact wpAny_BinOp (Yob ha hb I h λv u s2 x y H2 I2 rx ry q=>ho pins s2 Y H2 x y v u Q I2 rx ry q)
theorem Xw4 {r:V->Hp->VK->Prop}(ho:UnR X (unaryOp op) r)(ha:PE X a ta):PE X (.UnaryOp op a pos) (tUn r ta):=by
 intro pins s Y H Q I h
 exact UnaryOp_ (thn (ha pins s Y H _ I h) λv s1 ⟨x,H1,I1,r1,q1⟩=>ho pins s1 Y H1 x v Q I1 r1 q1)
theorem opI {f:Value->Value->Sem Value}{C:Int->Int->Prop}{g:Int->Int->Int}
  (rule:∀(i j:Int) (t u:Tok) (s:Shared) (Q:Value->Shared->Prop) (E:Value->Shared->Prop),C i j->Q (.int (g i j) s.toks) {s with toks:=s.toks+1}->wpAny (model X.prog X.w) X.A (f (.int i t) (.int j u)) Q E s):
  OpR X f (rI C λi j=>.int (g i j)):=by
 intro pins s Y H x y v u Q I rx ry h
 obtain⟨i,j,rfl,rfl,hc,q⟩:=h
 obtain⟨t,rfl⟩:=rx
 obtain⟨t',rfl⟩:=ry
 exact rule i j t t' s _ _ hc ⟨.int (g i j),H,I.tok _,⟨_,rfl⟩,q⟩
theorem Ym7 {f:Value->Value->Sem Value}{g:Int->Int->Int}
  (rule:∀(i j:Int) (t u:Tok) (s:Shared) (Q:Value->Shared->Prop) (E:Value->Shared->Prop),Q (.int (g i j) s.toks) {s with toks:=s.toks+1}->wpAny (model X.prog X.w) X.A (f (.int i t) (.int j u)) Q E s):
  OpR X f (rI0 λi j=>.int (g i j)):=by
 intro pins s Y H x y v u Q I rx ry h
 obtain⟨i,j,rfl,rfl,q⟩:=h
 obtain⟨t,rfl⟩:=rx
 obtain⟨t',rfl⟩:=ry
 exact rule i j t t' s _ _ ⟨.int (g i j),H,I.tok _,⟨_,rfl⟩,q⟩
theorem Ym8 {f:Value->Value->Sem Value}{g:Int->Int->Bool}
  (rule:∀(i j:Int) (t u:Tok) (s:Shared) (Q:Value->Shared->Prop) (E:Value->Shared->Prop),Q (.bool (g i j)) s->wpAny (model X.prog X.w) X.A (f (.int i t) (.int j u)) Q E s):
  OpR X f (rI0 λi j=>.bl (g i j)):=by
 intro pins s Y H x y v u Q I rx ry h
 obtain⟨i,j,rfl,rfl,q⟩:=h
 obtain⟨t,rfl⟩:=rx
 obtain⟨t',rfl⟩:=ry
 exact rule i j t t' s _ _ ⟨.bl (g i j),H,I,rfl,q⟩
def Yps (i j:Int):Prop:=0<j/\j<1073741824
def Ypr (i j:Int):Prop:=0<=j/\j<=1000000/\i.natAbs<2^64
def Ym2 (i j:Int):Prop:=(-(2^64)<i/\i<2^64)∨(-(2^64)<j/\j<2^64)
theorem Ym2.ok (h:Ym2 i j):IntMulOk i j:=by
 rcases h with⟨h1,h2⟩ | ⟨h1,h2⟩
 .exact .of_left (intBits_le_64 h1 h2)
 .exact .of_right (intBits_le_64 h1 h2)
theorem Xwi (k:Nat):(0:Int)<=2^k:=by
 exact Int.natCast_nonneg _
theorem Xdj:OpR X (binaryOp .Add) (rI0 λi j=>.int (i+j)):=Ym7 λ_ _ _ _ _ _ _ q=>add_int q
theorem Xea:OpR X (binaryOp .Sub) (rI0 λi j=>.int (i-j)):=Ym7 λ_ _ _ _ _ _ _ q=>sub_int q
theorem Xkk:OpR X (binaryOp .Mult) (rI Ym2 λi j=>.int (i*j)):=opI λ_ _ _ _ _ _ _ hc q=>mul_int q hc.ok
theorem Xdm:OpR X (binaryOp .FloorDiv) (rI Yps λi j=>.int (i / j)):=opI λi j _ _ _ _ _ hc q=>by
 have h1:(0:Int)<j:=hc.1
 have h2:j<1073741824:=hc.2
 exact floordiv_int (by lia) (by rw[Int.fdiv_eq_ediv_of_nonneg i (by lia)];exact q) (.inl (PyProof.noPylong_small (by omega)))
theorem Xb9:OpR X (binaryOp .Mod) (rI (λ_ j=>0<j) λi j=>.int (i%j)):=opI λi j _ _ _ _ _ hc q=>by
 exact mod_int' (by lia) (by rw[Int.fmod_eq_emod_of_nonneg i (by lia)];exact q)
theorem Xi9:OpR X (binaryOp .LShift) (rI Ypr λi j=>.int (i*2^j.toNat)):=opI λ_ _ _ _ _ _ _ hc q=>lshift_int_small hc.1 hc.2.1 hc.2.2 q
theorem Xzs:OpR X (binaryOp .RShift) (rI (λ_ j=>0<=j) λi j=>.int (i / 2^j.toNat)):=opI λi j _ _ _ _ _ hc q=>
 rshift_int hc (by rw[Int.fdiv_eq_ediv_of_nonneg i (Xwi _)];exact q)
theorem Yew:OpR X (binaryOp .BitAnd) (rI0 λi j=>.int (Builtin.bitAnd i j)):=Ym7 λ_ _ _ _ _ _ _ q=>and_int q
theorem Ynw:OpR X (binaryOp .BitOr) (rI0 λi j=>.int (Builtin.bitOr i j)):=Ym7 λ_ _ _ _ _ _ _ q=>or_int q
theorem unI {f:Value->Sem Value}{g:Int->Int}
  (rule:∀(i:Int) (t:Tok) (s:Shared) (Q:Value->Shared->Prop) (E:Value->Shared->Prop),Q (.int (g i) s.toks) {s with toks:=s.toks+1}->wpAny (model X.prog X.w) X.A (f (.int i t)) Q E s):
  UnR X f (rU λi=>.int (g i)):=by
 intro pins s Y H x v Q I rx h
 obtain⟨i,rfl,q⟩:=h
 obtain⟨t,rfl⟩:=rx
 exact rule i t s _ _ ⟨.int (g i),H,I.tok _,⟨_,rfl⟩,q⟩
theorem Xo5:UnR X (unaryOp .USub) (rU λi=>.int (-i)):=unI λ_ _ _ _ _ q=>neg_int q
end
def Yor:V->V->Bool
 | .non,.non=>true | .non,.int _=>true | .int _,.non=>true | .non,.bl _=>true | .bl _,.non=>true | .non,.str _=>true | .str _,.non=>true
 | .int _,.int _=>true | .bl _,.bl _=>true | .str _,.str _=>true | .byt _,.byt _=>true
 | .int _,.str _=>true | .str _,.int _=>true | .bl _,.str _=>true | .str _,.bl _=>true
 |_,_=>false
def rEq:R2:=λx y H Q=>Yor x y=true/\Q (.bl (decide (x=y))) H
def rNe:R2:=λx y H Q=>Yor x y=true/\Q (.bl (!decide (x=y))) H
theorem Ybg:decide (V.int i=V.int j)=(i==j):=by
 rw[Bool.eq_iff_iff]
 simp
theorem Yfg:decide (V.bl i=V.bl j)=(i==j):=by
 rw[Bool.eq_iff_iff]
 simp
theorem Ybf:decide (V.str i=V.str j)=(i==j):=by
 rw[Bool.eq_iff_iff]
 simp
theorem Ybh:decide (V.byt i=V.byt j)=(i.toList==j.toList):=by
 rw[Bool.eq_iff_iff]
 cases i
 cases j
 simp
section
variable {X:Cx}{a b c:Expr}{ta tb tc:TE}{pos:Pos}
theorem Xbq {Y:St}{H:Hp}(I:Inv X pins Y H s)(q:Q (.bl k) H)(e:k=k'):EP X pins Y Q (.bool k') s:=by
 subst e
 exact⟨.bl k,H,I,rfl,q⟩
theorem Xfk:OpR X (compareOp .Eq) rEq:=by
 intro pins s Y H x y v u Q I rx ry h
 obtain⟨hs,q⟩:=h
 cases x with
 |non=>
  cases rx
  cases y with
  |non=>cases ry;exact PySem.EqNone.eq_none_none (Xbq I q rfl)
  |bl j=>cases ry;exact PySem.EqNone.eq_none_bool (Xbq I q rfl)
  |int j=>obtain⟨t',rfl⟩:=ry;exact PySem.EqNone.eq_none_int (Xbq I q rfl)
  |str j=>obtain⟨t',rfl⟩:=ry;exact PySem.EqNone.eq_none_str (Xbq I q rfl)
  |_=>exact absurd (show false=true from hs) Bool.false_ne_true
 |bl i=>
  cases rx
  cases y with
  |non=>cases ry;exact PySem.EqNone.eq_bool_none (Xbq I q rfl)
  |bl j=>cases ry;exact eq_bool (Xbq I q Yfg)
  |str j=>obtain⟨t',rfl⟩:=ry;exact PySem.EqMixed.eq_bool_str (Xbq I q rfl)
  |_=>exact absurd (show false=true from hs) Bool.false_ne_true
 |int i=>
  obtain⟨t,rfl⟩:=rx
  cases y with
  |non=>cases ry;exact PySem.EqNone.eq_int_none (Xbq I q rfl)
  |int j=>obtain⟨t',rfl⟩:=ry;exact eq_int (Xbq I q Ybg)
  |str j=>obtain⟨t',rfl⟩:=ry;exact PySem.EqMixed.eq_int_str (Xbq I q rfl)
  |_=>exact absurd (show false=true from hs) Bool.false_ne_true
 |str i=>
  obtain⟨t,rfl⟩:=rx
  cases y with
  |non=>cases ry;exact PySem.EqNone.eq_str_none (Xbq I q rfl)
  |bl j=>cases ry;exact PySem.EqMixed.eq_str_bool (Xbq I q rfl)
  |int j=>obtain⟨t',rfl⟩:=ry;exact PySem.EqMixed.eq_str_int (Xbq I q rfl)
  |str j=>obtain⟨t',rfl⟩:=ry;exact eq_str (Xbq I q Ybf)
  |_=>exact absurd (show false=true from hs) Bool.false_ne_true
 |byt i=>
  obtain⟨t,rfl⟩:=rx
  cases y with
  |byt j=>obtain⟨t',rfl⟩:=ry;exact PySem.W.eq_bytes (Xbq I q Ybh)
  |_=>exact absurd (show false=true from hs) Bool.false_ne_true
 |_=>cases y<;>exact absurd (show false=true from hs) Bool.false_ne_true
theorem Xt8:OpR X (compareOp .NotEq) rNe:=by
 intro pins s Y H x y v u Q I rx ry h
 obtain⟨hs,q⟩:=h
 cases x with
 |non=>
  cases rx
  cases y with
  |non=>cases ry;exact PySem.EqNone.ne_none_none (Xbq I q rfl)
  |bl j=>cases ry;exact PySem.EqNone.ne_none_bool (Xbq I q rfl)
  |int j=>obtain⟨t',rfl⟩:=ry;exact PySem.EqNone.ne_none_int (Xbq I q rfl)
  |str j=>obtain⟨t',rfl⟩:=ry;exact PySem.EqNone.ne_none_str (Xbq I q rfl)
  |_=>exact absurd (show false=true from hs) Bool.false_ne_true
 |bl i=>
  cases rx
  cases y with
  |non=>cases ry;exact PySem.EqNone.ne_bool_none (Xbq I q rfl)
  |bl j=>cases ry;exact ne_bool (Xbq I q (congrArg not Yfg))
  |str j=>obtain⟨t',rfl⟩:=ry;exact PySem.EqMixed.ne_bool_str (Xbq I q rfl)
  |_=>exact absurd (show false=true from hs) Bool.false_ne_true
 |int i=>
  obtain⟨t,rfl⟩:=rx
  cases y with
  |non=>cases ry;exact PySem.EqNone.ne_int_none (Xbq I q rfl)
  |int j=>obtain⟨t',rfl⟩:=ry;exact ne_int (Xbq I q (congrArg not Ybg))
  |str j=>obtain⟨t',rfl⟩:=ry;exact PySem.EqMixed.ne_int_str (Xbq I q rfl)
  |_=>exact absurd (show false=true from hs) Bool.false_ne_true
 |str i=>
  obtain⟨t,rfl⟩:=rx
  cases y with
  |non=>cases ry;exact PySem.EqNone.ne_str_none (Xbq I q rfl)
  |bl j=>cases ry;exact PySem.EqMixed.ne_str_bool (Xbq I q rfl)
  |int j=>obtain⟨t',rfl⟩:=ry;exact PySem.EqMixed.ne_str_int (Xbq I q rfl)
  |str j=>obtain⟨t',rfl⟩:=ry;exact ne_str (Xbq I q (congrArg not Ybf))
  |_=>exact absurd (show false=true from hs) Bool.false_ne_true
 |byt i=>
  obtain⟨t,rfl⟩:=rx
  cases y with
  |byt j=>obtain⟨t',rfl⟩:=ry;exact PySem.W.ne_bytes (Xbq I q (congrArg not Ybh))
  |_=>exact absurd (show false=true from hs) Bool.false_ne_true
 |_=>cases y<;>exact absurd (show false=true from hs) Bool.false_ne_true
theorem Xt9:OpR X (compareOp .Lt) (rI0 λi j=>.bl (decide (i<j))):=Ym8 λ_ _ _ _ _ _ _ q=>lt_int q
theorem Yc7:OpR X (compareOp .LtE) (rI0 λi j=>.bl (decide (i<=j))):=Ym8 λ_ _ _ _ _ _ _ q=>le_int q
theorem Yc8:OpR X (compareOp .Gt) (rI0 λi j=>.bl (decide (j<i))):=Ym8 λ_ _ _ _ _ _ _ q=>gt_int q
theorem Yhv:OpR X (compareOp .GtE) (rI0 λi j=>.bl (decide (j<=i))):=Ym8 λ_ _ _ _ _ _ _ q=>ge_int q
theorem Xzu:OpR X (compareOp .In) (λx y H Q=>∃i j,x = .str i/\y = .str j/\Q (.bl (!(Builtin.Str.occurrences j i 0 j.length 1).isEmpty)) H):=by
 intro pins s Y H x y v u Q I rx ry h
 obtain⟨i,j,rfl,rfl,q⟩:=h
 obtain⟨t,rfl⟩:=rx
 obtain⟨t',rfl⟩:=ry
 exact in_str (Xbq I q rfl)
theorem Ylf:OpR X (compareOp .Is) (λx y H Q=>y = .non/\Q (.bl (decide (x = .non))) H):=by
 intro pins s Y H x y v u Q I rx ry h
 obtain⟨rfl,q⟩:=h
 cases ry
 refine is_none_gen (Xbq I q ?_)
 cases x<;>first
  | (cases rx;rfl)
  | (obtain⟨t,rfl⟩:=rx;rfl)
theorem Yht:OpR X (compareOp .IsNot) (λx y H Q=>y = .non/\Q (.bl (!decide (x = .non))) H):=by
 intro pins s Y H x y v u Q I rx ry h
 obtain⟨rfl,q⟩:=h
 cases ry
 refine isnot_none_gen (Xbq I q ?_)
 cases x<;>first
  | (cases rx;rfl)
  | (obtain⟨t,rfl⟩:=rx;rfl)
theorem Xsd:OpR X (compareOp .NotIn) (λx y H Q=>∃i j,x = .str i/\y = .str j/\Q (.bl (!(!(Builtin.Str.occurrences j i 0 j.length 1).isEmpty))) H):=by
 intro pins s Y H x y v u Q I rx ry h
 obtain⟨i,j,rfl,rfl,q⟩:=h
 obtain⟨t,rfl⟩:=rx
 obtain⟨t',rfl⟩:=ry
 exact notIn_str (Xbq I q rfl)
theorem Xbf (b:Expr)(h:op≠.In:=by decide)(h2:op≠.NotIn:=by decide):behindInMarks op b=false:=by
 have e1:(op==CmpOp.In)=false:=by cases op<;>first |rfl |exact absurd rfl h
 have e2:(op==CmpOp.NotIn)=false:=by cases op<;>first |rfl |exact absurd rfl h2
 cases b<;>simp[behindInMarks,e1,e2]
theorem Xgs (ho:OpR X (compareOp op) r)(ha:PE X a ta)(hb:PE X b tb)(hm:behindInMarks op b=false):PE X (.Compare a [op] [b] pos) (tOp r ta tb):=by
 intro pins s Y H Q I h
 exact wpAny_Compare1 (Yob ha hb I h λv u s2 x y H2 I2 rx ry q=>ho pins s2 Y H2 x y v u Q I2 rx ry q) hm
def Yf2 (t:TE):TT:=λY H Q=>t Y H λx H'=>∃k,x = .bl k/\Q k H'
theorem Xbb (ho:OpR X (compareOp op) r)(ha:PE X a ta)(hb:PE X b tb)(hm:behindInMarks op b=false):PT X (.Compare a [op] [b] pos) (Yf2 (tOp r ta tb)):=by
 intro pins s Y H Q I h
 refine wpAny_isTrue_Compare1 (thn (ha pins s Y H _ I h) λv s1 ⟨x,H1,I1,r1,q1⟩=>thn (hb pins s1 Y H1 _ I1 q1) λu s2 ⟨y,H2,I2,r2,q2⟩=>
  thn (ho pins s2 Y H2 x y v u _ I2 r1 r2 q2) λc s3 ⟨z,H3,I3,r3,k,e,q3⟩=>?_) hm
 subst e
 cases r3
 exact wpAny_truthy_bool ⟨H3,I3,q3⟩
def Xyd (r r':R2)(ta tb tc:TE):TE:=λY H Q=>ta Y H λx H1=>tb Y H1 λy H2=>r x y H2 λz H3=>∃k,z = .bl k/\
 (if k=true then tc Y H3 λw' H4=>r' y w' H4 Q else Q (.bl false) H3)
theorem Yc6 (ho:OpR X (compareOp op) r)(ho':OpR X (compareOp op') r')(ha:PE X a ta)(hb:PE X b tb)(hc:PE X c tc)
  (hm:lastMarks [op,op'] [b,c]=false:=by with_unfolding_all rfl):PE X (.Compare a [op,op'] [b,c] pos) (Xyd r r' ta tb tc):=by
 intro pins s Y H Q I h
 refine Compare_chain (thn (ha pins s Y H _ I h) λv s1 ⟨x,H1,I1,r1,q1⟩=>chain_link (thn (hb pins s1 Y H1 _ I1 q1) λu s2 ⟨y,H2,I2,r2,q2⟩=>
  thn (ho pins s2 Y H2 x y v u _ I2 r1 r2 q2) λd s3 ⟨z,H3,I3,r3,k,e,q3⟩=>?_)) hm
 subst e
 cases r3
 refine wpAny_truthy_bool ?_
 cases k with
 |false=>exact ite_ff ⟨.bl false,H3,I3,rfl,q3⟩
 |true=>exact ite_tt (chain_last (thn (hc pins s3 Y H3 _ I3 q3) λw' s4 ⟨z',H4,I4,r4,q4⟩=>ho' pins s4 Y H4 y z' u w' Q I4 r2 r4 q4))
theorem Ycv (ho:OpR X (compareOp op) r)(ho':OpR X (compareOp op') r')(ha:PE X a ta)(hb:PE X b tb)(hc:PE X c tc)
  (hm:lastMarks [op,op'] [b,c]=false:=by with_unfolding_all rfl):PT X (.Compare a [op,op'] [b,c] pos) (Yf2 (Xyd r r' ta tb tc)):=by
 intro pins s Y H Q I h
 refine isTrue_chain (thn (ha pins s Y H _ I h) λv s1 ⟨x,H1,I1,r1,q1⟩=>test_link (thn (hb pins s1 Y H1 _ I1 q1) λu s2 ⟨y,H2,I2,r2,q2⟩=>
  thn (ho pins s2 Y H2 x y v u _ I2 r1 r2 q2) λd s3 ⟨z,H3,I3,r3,k,e,q3⟩=>?_)) hm
 subst e
 cases r3
 refine wpAny_truthy_bool ?_
 cases k with
 |false=>
  obtain⟨k',e',q'⟩:=q3
  cases e'
  exact ite_ff ⟨H3,I3,q'⟩
 |true=>
  refine ite_tt (test_last (thn (hc pins s3 Y H3 _ I3 q3) λw' s4 ⟨z',H4,I4,r4,q4⟩=>thn (ho' pins s4 Y H4 y z' u w' _ I4 r2 r4 q4) λd' s5 ⟨z2,H5,I5,r5,k2,e2,q5⟩=>?_))
  subst e2
  cases r5
  exact wpAny_truthy_bool ⟨H5,I5,q5⟩
def Yof (K:Frag)(x:V)(H:Hp)(k:Bool):Prop:=
 match x with
 | .non=>k=false
 | .bl b=>k=b
 | .int i=>k=(i != 0)
 | .str y=>y.length<=sizeLine/\k=((y.length:Int) != 0)
 | .byt y=>y.size<=sizeLine/\k=((y.size:Int) != 0)
 | .ref p=>(∃xs,SqL K H p xs/\k = !xs.isEmpty)∨(∃xs,SqT K H p xs/\k = !xs.isEmpty)∨∃kvs,H p=some (.dK kvs)/\k = !kvs.isEmpty
 |_=>False
theorem Xxk {κ:Type}{kvs:List (κ×V)}{vs:List (κ×Value)}(r:KV kvs vs):(!vs.isEmpty) = !kvs.isEmpty:=by
 cases r<;>rfl
theorem Xpo (r:Xbz xs its):(!its.toArray.isEmpty) = !xs.isEmpty:=by
 cases r<;>simp
theorem Xnr:(sizeLine:Nat)<2^63:=by rw[sizeLine_eq];decide
theorem Yjz:Yp9 X (λx H Q=>∃k,Yof X.K x H k/\Q k H):=by
 intro pins s Y H x v Q I rx h
 obtain⟨k,e,q⟩:=h
 have hs:sizeLine=16777216:=sizeLine_eq
 cases x with
 |non=>
  cases rx
  have e':k=false:=e
  subst e'
  exact truthy_none ⟨H,I,q⟩
 |bl b=>
  cases rx
  have e':k=b:=e
  subst e'
  exact wpAny_truthy_bool ⟨H,I,q⟩
 |int i=>
  obtain⟨t,rfl⟩:=rx
  have e':k=(i != 0):=e
  subst e'
  exact PySem.P.truthy_int ⟨H,I,q⟩
 |str y=>
  obtain⟨t,rfl⟩:=rx
  obtain⟨hy,e'⟩:y.length<=sizeLine/\k=((y.length:Int) != 0):=e
  subst e'
  exact PySem.P.truthy_str (by lia) ⟨H,I.tok _,q⟩
 |byt y=>
  obtain⟨t,rfl⟩:=rx
  obtain⟨hy,e'⟩:y.size<=sizeLine/\k=((y.size:Int) != 0):=e
  subst e'
  exact PySem.W.truthy_bytes (by lia) ⟨H,I.tok _,q⟩
 |ref p=>
  cases rx
  have e':(∃xs,SqL X.K H p xs/\k = !xs.isEmpty)∨(∃xs,SqT X.K H p xs/\k = !xs.isEmpty)∨∃kvs,H p=some (.dK kvs)/\k = !kvs.isEmpty:=e
  rcases e' with⟨xs,hx,e'⟩ | ⟨xs,hx,e'⟩ | ⟨kvs,hx,e'⟩
  .subst e'
   obtain⟨its,r,pl,hz⟩:=I.list hx
   have hlen:=r.length
   exact wpAny_truthy_list pl.isList (by simp only[size_toArray];lia) ⟨H,I.tok _,by rw[Xpo r];exact q⟩
  .subst e'
   obtain⟨its,r,pl,hz⟩:=I.tuple hx
   have hlen:=r.length
   exact truthy_tuple pl (by simp only[size_toArray];lia) ⟨H,I.tok _,by rw[Xpo r];exact q⟩
  .subst e'
   obtain⟨hz,hS,vs,r,m⟩:kvs.length<=sizeLine/\(p==sysModules)=false/\∃vs,KV kvs vs/\s.heap.DictOf (Xuf X.prog X.w) p vs:=I.hok p _ hx
   have hlen:kvs.length=vs.length:=Paired.length r
   exact wpAny_truthy_dict hS m (by lia) ⟨H,I.tok _,by rw[Xxk r];exact q⟩
 |_=>exact (show False from e).elim
theorem Ycu (ha:PE X a ta)(he:∀whole,isTrue a X.env whole=(do let v <- whole;standAt a.pos;holding [v] (truthy v))):
  PT X a (λY H Q=>ta Y H λx H'=>∃k,Yof X.K x H' k/\Q k H'):=by
 intro pins s Y H Q I h
 exact isTrue_plain (thn (ha pins s Y H _ I h) λv s1 ⟨x,H1,I1,r1,q1⟩=>Yjz pins s1 Y H1 x v Q I1 r1 q1) (he _)
theorem Xf0:OpR X (binaryOp .Add) (λx y H Q=>∃i j,x = .str i/\y = .str j/\i.length+j.length<=sizeLine/\Q (.str (i++j)) H):=by
 intro pins s Y H x y v u Q I rx ry h
 obtain⟨i,j,rfl,rfl,hz,q⟩:=h
 obtain⟨t,rfl⟩:=rx
 obtain⟨t',rfl⟩:=ry
 exact add_str (λt' tk=>⟨.str (i++j),H,I.tok _,⟨_,rfl⟩,q⟩) hz
theorem Xhg (r:Xbz [x] us):∃u,us=[u]/\Xdh x u:=by
 cases r with
 |cons r1 r2=>cases r2;exact⟨_,rfl,r1⟩
theorem Yfz (r:Xbz [x,y] us):∃u w',us=[u,w']/\Xdh x u/\Xdh y w':=by
 cases r with
 |cons r1 r2=>
  cases r2 with
  |cons r3 r4=>cases r4;exact⟨_,_,rfl,r1,r3⟩
theorem Xwc:Xhb X (.builtin "abs") (λxs H Q=>∃i,xs=[.int i]/\Q (.int (if i<0 then -i else i)) H):=by
 intro pins s Y H xs us Q I r h
 obtain⟨i,rfl,q⟩:=h
 obtain⟨u,rfl,t,rfl⟩:=Xhg r
 exact call_abs_int λu tk=>⟨.int (if i<0 then -i else i),H,I.tok _,⟨_,rfl⟩,q⟩
theorem Xlx:Xhb X (.type "str") (λxs H Q=>∃i,xs=[.int i]/\i.natAbs.log2<1920/\Q (.str (toString i)) H):=by
 intro pins s Y H xs us Q I r h
 obtain⟨i,rfl,hz,q⟩:=h
 obtain⟨u,rfl,t,rfl⟩:=Xhg r
 exact PySem.P.str_of_int hz ⟨.str _,H,I.tok _,⟨_,rfl⟩,q⟩
theorem Xwb:Xhb X (.builtin "ord") (λxs H Q=>∃x,xs=[.str x]/\x.length=1/\Q (.int (x.cps.getD 0 0:Nat)) H):=by
 intro pins s Y H xs us Q I r h
 obtain⟨x,rfl,hz,q⟩:=h
 obtain⟨u,rfl,t,rfl⟩:=Xhg r
 exact ord_of_one hz ⟨.int _,H,I.tok _,⟨_,rfl⟩,q⟩
end
structure ObjM (h:Heap) (x dx C:Addr) (mA:Str->Option Value):Prop where
 obj:h.get? x=some (instObj C dx)
 ns:h.Ns1 dx mA
 ne:dx≠x
theorem Xz9 {h:Heap}{dx:Addr}{mA:Str->Option Value}(n:h.Ns1 dx mA):∃od,h.get? dx=some od/\∀name,lookIn name od=some (mA name):=by
 obtain⟨o,es,ep,ho,hd,hk,_,hm⟩:=n
 refine⟨o,ho,λname=>?_⟩
 have e:=hm name
 unfold nsFind findBy at e
 rw[<- Array.find?_toList]at e
 unfold lookIn
 rw[hd]
 dsimp only
 split
 .rename_i y q
  rw[q]at e
  exact congrArg some e
 .rename_i q
  rw[q]at e
  have a:es.toList.any (·.refKey)=false:=by
   rw[List.any_eq_false]
   intro y hy
   obtain⟨z,t,hkey⟩:=hk y (Array.mem_toList_iff.mp hy)
   simp[DictEntry.refKey,hkey]
  have a':¬ es.toList.any (·.refKey)=true:=by rw[a];exact Bool.false_ne_true
  rw[if_neg a']
  exact congrArg some e
theorem ObjM.look {mA:Str->Option Value}(I:ObjM h x dx C mA):∃od,PySem.W.InstAt h x (instObj C dx) C (some od)/\∀name,lookIn name od=some (mA name):=
 let⟨od,ho,hl⟩:=Xz9 I.ns
 ⟨od,⟨I.obj,rfl,rfl,ho⟩,hl⟩
section
variable {prog:Program}{w:World}{A:Around}{E:Value->Shared->Prop}{s:Shared}{K:Frag}{x dx C f:Addr}{mA:Str->Option Value}{name:Str}{v:Value}
theorem Yiw {expr:Bool}{Q:Value->Shared->Prop}(X:K.In s.heap)(I:ObjM s.heap x dx C mA)(hg:plainGet K C name=true)(hh:PySem.W.hasDictIn K C=true)
  (ha:PySem.W.findIn K (.ref C) name=some none) (hv:mA name=some v) (hv':handedIn v=true) (h:Q v {s with toks:=s.toks+1}):
  wpAny (model prog w) A (getAttr (.ref x) name expr) Q E s:=by
 obtain⟨od,J,hl⟩:=I.look
 exact PySem.W.get_value X J (plainGet_of hg).1 (PySem.W.findObj_own hh ha rfl (by rw[hl,hv])) hv' h
theorem Ydt {Q:Value×List Value->Shared->Prop}(X:K.In s.heap)(I:ObjM s.heap x dx C mA)(hg:plainGet K C name=true)
  (hf:PySem.W.findIn K (.ref C) name=some (some (.ref f))) (ht:isFn K (.ref f)=true) (hv:mA name=none) (h:Q (.ref f,[.ref x]) s):
  wpAny (model prog w) A (getMethod (.ref x) name pl) Q E s:=by
 obtain⟨od,J,hl⟩:=I.look
 exact PySem.W.method_fn X J (plainGet_of hg).1 (plainGet_of hg).2 hf (beq_iff_eq.mp ht) (by show (lookIn name od).map (·.isSome)=some false;rw[hl,hv];rfl) h
theorem Ygh {ns:List Str}{Q:Unit->Shared->Prop}(X:K.In s.heap)(I:ObjM s.heap x dx C mA)
  (hs:PySem.W.findIn K (.ref C) "__setattr__"=some (some (.builtin "object.__setattr__"))) (hp:plainOver K C=true) (ht:takerIn K C name=some none) (hh:PySem.W.hasDictIn K C=true)
  (hw:PySem.Within mA ns) (hsz:ns.length<=sizeLine)
  (h:∀h',ObjM h' x dx C (λy=>if y=name then some v else mA y)->Heap.SameBut dx s.heap h'->Q () {s with heap:=h',toks:=s.toks+2}):
  wpAny (model prog w) A (setAttr (.ref x) name v) Q E s:=by
 obtain⟨od,J,hl⟩:=I.look
 refine PySem.W.set_plain X J hs (PySem.W.osa_open (s:={s with toks:=s.toks+1}) X J hp ht λb=>?_)
 obtain⟨cd,hc,hd'⟩:=PySem.W.any_some hh
 have hx:s.heap.get? x=some ⟨.ref C,some dx,.plain,#[]⟩:=I.obj
 refine wpAny_bind (wpAny_pure (wpAny_bind (wpAny_bind (wpAny_loadPart hx (wpAny_bind (PySem.W.Looks.here (s:={s with toks:=s.toks+1}) (PySem.W.looks_clsIn X hc) ?_))))))
 rw[hd']
 refine wpAny_pure (a:=some dx) (wpAny_bind (wpAny_pure (wpAny_bind ?_)))
 refine wpAny_nsSet1 (s:={s with toks:=s.toks+1}) I.ns λh' hn2 hs2=>?_
 obtain⟨oD,esD,epD,hoD,hdD,hcD⟩:=hn2.count (PySem.Within.cons name v hw)
 refine wpAny_bind (wpAny_lookBehind hoD (by rw[hdD];exact pastItsLine_dict (le_trans hcD (by rw[length_cons];lia))) ?_)
 exact wpAny_pure (h _ ⟨(hs2.2 _ (Ne.symm I.ne)).trans I.obj,hn2,I.ne⟩ hs2)
theorem Ydh {R:Result->Shared->Prop}{vs:List Value}{kw:List (Str×Value)}(X:K.In s.heap)(hm:makesIn K C=true)
  (hi:PySem.W.findIn K (.ref C) "__init__"=some (some (.ref f))) (hf:PySem.W.typeIn K (.ref f)=some (.type "function"))
  (h:codeAny (model prog w) (A.under (.builtin "type.__call__" ⟨.ref C::vs,kw⟩)) (.call (.ref f) ⟨.ref (s.heap.objs.size+1)::vs,kw⟩) (PySem.W.InitBack (s.heap.objs.size+1) R)
   {s with heap:=(s.heap.push emptyDict).push (instObj C s.heap.objs.size)}):
  codeAny (model prog w) A (.call (.ref C) ⟨vs,kw⟩) R s:=by
 exact PySem.W.make_core (PySem.W.makes_of X hm) (PySem.W.looks_findIn X hi) (λself=>PySem.W.bind_fn X self hf) (.inl rfl) h
end
def Xof (f:Str)(v:V):List (Str×V)->List (Str×V)
 | []=>[(f,v)]
 | (g,x)::r=>if g=f then (g,v)::r else (g,x)::Xof f v r
theorem Xnq (f g:Str)(v:V):∀fs:List (Str×V),(Xof f v fs).lookup g=if g=f then some v else fs.lookup g
 | []=>by
  show List.lookup g [(f,v)]=_
  by_cases h:g=f
  .have hb:(g==f)=true:=beq_iff_eq.mpr h
   simp only[List.lookup,hb,if_pos h]
  .have hb:(g==f)=false:=beq_eq_false_iff_ne.mpr h
   simp only[List.lookup,hb,if_neg h]
 | (k,x)::r=>by
  have ih:=Xnq f g v r
  rw[show Xof f v ((k,x)::r)=(if k=f then (k,v)::r else (k,x)::Xof f v r) from rfl]
  by_cases hk:k=f
  .rw [if_pos hk]
   by_cases h:g=k
   .have hb:(g==k)=true:=beq_iff_eq.mpr h
    simp only[List.lookup,hb,if_pos (h.trans hk)]
   .have hb:(g==k)=false:=beq_eq_false_iff_ne.mpr h
    simp only[List.lookup,hb,if_neg (λe:g=f=>h (e.trans hk.symm))]
  .rw [if_neg hk]
   by_cases h:g=k
   .have hb:(g==k)=true:=beq_iff_eq.mpr h
    simp only[List.lookup,hb,if_neg (λe:g=f=>hk (h.symm.trans e))]
   .have hb:(g==k)=false:=beq_eq_false_iff_ne.mpr h
    simp only[List.lookup,hb]
    exact ih
theorem Xnu (f:Str)(v:V):∀fs:List (Str×V),f∈(Xof f v fs).map (·.1)/\∀g,g∈fs.map (·.1)->g∈(Xof f v fs).map (·.1)
 | []=>⟨by simp[Xof],λg h=>by simp at h⟩
 | (k,x)::r=>by
  obtain⟨i1,i2⟩:=Xnu f v r
  rw[show Xof f v ((k,x)::r)=(if k=f then (k,v)::r else (k,x)::Xof f v r) from rfl]
  by_cases hk:k=f
  .subst hk
   exact⟨by simp,λg h=>by simpa using h⟩
  .rw [if_neg hk]
   refine⟨?_,λg h=>?_⟩
   .exact mem_cons_of_mem _ i1
   .rcases mem_cons.mp h with e |e
    .exact mem_cons.mpr (.inl e)
    .exact mem_cons_of_mem _ (i2 g e)
theorem Xns (f:Str)(v:V):∀fs:List (Str×V),(Xof f v fs).length<=fs.length+1
 | []=>by simp[Xof]
 | (k,x)::r=>by
  have ih:=Xns f v r
  rw[show Xof f v ((k,x)::r)=(if k=f then (k,v)::r else (k,x)::Xof f v r) from rfl]
  by_cases hk:k=f
  .rw [if_pos hk,length_cons,length_cons];lia
  .rw [if_neg hk,length_cons,length_cons];lia
theorem Yd2.some_of (r:Yd2 (some v) o):∃u,o=some u/\Xdh v u:=by
 cases o with
 |none=>exact (show False from r).elim
 |some u=>exact⟨u,rfl,r⟩
theorem Yd2.none_of (r:Yd2 none o):o=none:=by
 cases o with
 |none=>rfl
 |some u=>exact (show False from r).elim
theorem Yap (r:Xdh v u):handedIn u=true:=by
 cases v with
 |non=>cases (show u=Value.none from r);rfl
 |bl b=>cases (show u=Value.bool b from r);rfl
 |int i=>obtain⟨t,e⟩:=(show ∃t,u=Value.int i t from r);cases e;rfl
 |str x=>obtain⟨t,e⟩:=(show ∃t,u=Value.str x t from r);cases e;rfl
 |byt b=>obtain⟨t,e⟩:=(show ∃t,u=Value.bytes b t from r);cases e;rfl
 |flt b=>obtain⟨t,e⟩:=(show ∃t,u=Value.float b t from r);cases e;rfl
 |ref a=>cases (show u=Value.ref a from r);rfl
 |ty n=>cases (show u=Value.type n from r);rfl
section
variable {P:Program}{w:World}{H H':Hp}{h h':Heap}{a C dx:Addr}{fs fs':List (Str×V)}
theorem Xqu (hok:HOk P w H h)(e:H a=some (.ins C dx fs)):∃mA,ObjM h a dx C mA/\(∀f,Yd2 (fs.lookup f) (mA f))/\PySem.Within mA (fs.map (·.1))/\fs.length<=1000/\H dx=some (.own a):=by
 obtain⟨d,z,ne,ob,mA,n,r,q⟩:=(show Xe7 P w H h a (.ins C dx fs) from hok a _ e)
 exact⟨mA,⟨ob,n,ne⟩,r,q,z,d⟩
end
structure Cls (K:Frag) (C:Addr):Prop where
 pg:plainGet K C Str.empty=true
 hd:PySem.W.hasDictIn K C=true
 po:plainOver K C=true
 sa:PySem.W.findIn K (.ref C) "__setattr__"=some (some (.builtin "object.__setattr__"))
theorem Cls.get {K:Frag}{C:Addr}(c:Cls K C)(f:Str):plainGet K C f=true:=c.pg
def Xkv (K:Frag)(C:Addr)(f:Str):Prop:=PySem.W.findIn K (.ref C) f=some none
theorem Xkv.taker {K:Frag}{C:Addr}{f:Str}(n:Xkv K C f):takerIn K C f=some none:=by
 unfold takerIn
 rw[show PySem.W.findIn K (.ref C) f=some none from n]
 rfl
structure Meth (K:Frag) (C:Addr) (m:Str) (f:Addr):Prop where
 at_:PySem.W.findIn K (.ref C) m=some (some (.ref f))
 fn:isFn K (.ref f)=true
 kp:keepIn K (.ref f)=true
section
variable {X:Cx}{pins:List (Addr×Obj)}{Y:St}{H:Hp}{s:Shared}{a C dx:Addr}{fs:List (Str×V)}{f:Str}{v:V}{A:Around}{E:Value->Shared->Prop}
theorem Xpq {Q:Value->Shared->Prop}(I:Inv X pins Y H s)(e:H a=some (.ins C dx fs))(c:Cls X.K C)(n:Xkv X.K C f)(l:fs.lookup f=some v)
  (h:∀u s',Inv X pins Y H s'->Xdh v u->Q u s'):wpAny (model X.prog X.w) A (getAttr (.ref a) f b) Q E s:=by
 obtain⟨mA,O,r,_,_,_⟩:=Xqu I.hok e
 obtain⟨u,hu,ru⟩:=Yd2.some_of (o:=mA f) (by rw[<- l];exact r f)
 exact Yiw I.kIn O (c.get f) c.hd n hu (Yap ru) (h u _ (I.tok _) ru)
theorem Xpp {Q:Value×List Value->Shared->Prop}(I:Inv X pins Y H s)(e:H a=some (.ins C dx fs))(c:Cls X.K C)(k:Meth X.K C m g)(l:fs.lookup m=none)
  (h:Q (.ref g,[.ref a]) s):wpAny (model X.prog X.w) A (getMethod (.ref a) m pl) Q E s:=by
 obtain⟨mA,O,r,_,_,_⟩:=Xqu I.hok e
 have hn:mA m=none:=Yd2.none_of (by rw[<- l];exact r m)
 exact Ydt I.kIn O (c.get m) k.at_ k.fn hn h
theorem Xpg {Q:Unit->Shared->Prop}(I:Inv X pins Y H s)(e:H a=some (.ins C dx fs))(c:Cls X.K C)(n:Xkv X.K C f)(hl:fs.length<1000)(ry:Xdh y u)
  (h:∀s',Inv X pins Y (upd H a (.ins C dx (Xof f y fs))) s'->Q () s'):wpAny (model X.prog X.w) A (setAttr (.ref a) f u) Q E s:=by
 obtain⟨mA,O,r,wi,_,ho⟩:=Xqu I.hok e
 have hz:(fs.map (·.1)).length<=sizeLine:=by rw[length_map,sizeLine_eq];lia
 refine Ygh I.kIn O c.sa c.po n.taker c.hd wi hz λh' O' sb=>h _ ?_
 have hd:∃o,h'.get? dx=some o:=let⟨o,_,_,e',_⟩:=O'.ns;⟨o,e'⟩
 refine I.write (by rw[e];exact True.intro) (.inr ho) (λb q hb z=>(sb.2 b hb).trans z) hd ?_
 refine⟨by rw[Xbu O.ne];exact ho,?_,O.ne,O'.obj,_,O'.ns,λg=>?_,λg hg=>?_⟩
 .have:=Xns f y fs;lia
 .rw [Xnq]
  by_cases q:g=f
  .rw [if_pos q,if_pos q];exact ry
  .rw [if_neg q,if_neg q];exact r g
 .by_cases q:g=f
  .rw [q];exact (Xnu f y fs).1
  .refine (Xnu f y fs).2 g (wi g λz=>hg ?_)
   show (if g=f then some u else mA g)=none
   rw[if_neg q];exact z
theorem Inv.made (I:Inv X pins Y H s):Inv X pins Y (upd (upd H s.heap.objs.size (.own (s.heap.objs.size+1))) (s.heap.objs.size+1) (.ins C s.heap.objs.size []))
  {s with heap:=(s.heap.push emptyDict).push (instObj C s.heap.objs.size)}:=by
 have e1:(s.heap.push emptyDict).get? s.heap.objs.size=some emptyDict:=get?_push_size s.heap rfl
 have e2:((s.heap.push emptyDict).push (instObj C s.heap.objs.size)).get? (s.heap.objs.size+1)=some (instObj C s.heap.objs.size):=by
  have:=get?_push_size (s.heap.push emptyDict) (o:=instObj C s.heap.objs.size) rfl
  rwa[size_push]at this
 have e3:(s.heap.push emptyDict).Ns s.heap.objs.size (λ_=>none):=⟨emptyDict,#[],_,e1,rfl,(λe he=>absurd he (by simp)),λ_=>rfl⟩
 have I1:=I.laid (o:=.own (s.heap.objs.size+1)) (h':=s.heap.push emptyDict) (t':=s.toks) (λb u q=>get?_push_of_some _ q) (Nat.le_refl _) ⟨_,e1⟩
 refine I1.laid (a:=s.heap.objs.size+1) (o:=.ins C s.heap.objs.size []) (t':=s.toks) (λb u q=>get?_push_of_some _ q) (Nat.le_of_eq (size_push _ _)) ?_
 have ne:s.heap.objs.size≠s.heap.objs.size+1:=ne_of_lt (Nat.lt_succ_self _)
 refine⟨by rw[Xbu ne,Xay],zero_le _,ne,e2,λ_=>none,(Heap.Ns1.of_empty e3).at λo q=>get?_push_of_some _ q,λ_=>True.intro,λy hy=>absurd rfl hy⟩
theorem Yjd {w:World}{Q:Value->Shared->Prop}(hb:attributeBase e f env (eval e env)=eval e env)
  (h:wpAny (model prog w) A (eval e env) (λo s₁=>wpAny (model prog w) A (getAttr o f true) Q E s₁) E s):wpAny (model prog w) A (eval (.Attribute e f pos) env) Q E s:=
 Attribute_any_ h (by rw[arm_eval_Attribute,hb])
end
def Yj8 (K:Frag)(ta:TE)(f:Str):TE:=λY H Q=>ta Y H λx H1=>∃a C dx fs v,x = .ref a/\H1 a=some (.ins C dx fs)/\Cls K C/\Xkv K C f/\fs.lookup f=some v/\Q v H1
def Ynl (K:Frag)(ta tv:TE)(f:Str):TS:=λD Y H=>tv Y H λy H1=>ta Y H1 λx H2=>∃a C dx fs,x = .ref a/\H2 a=some (.ins C dx fs)/\Cls K C/\Xkv K C f/\fs.length<1000/\
 D.nx Y (upd H2 a (.ins C dx (Xof f y fs)))
def Yok (X:Cx)(op:Operator)(rd:V->V->Hp->VK->Prop):Prop:=
 ∀(pins:List (Addr×Obj)) (s:Shared) (Y:St) (H:Hp) (x y:V) (u v:Value) (Q:VK),Inv X pins Y H s->Xdh x u->Xdh y v->rd x y H Q->wpAny (model X.prog X.w) X.A (inplaceOp op u v) (EP X pins Y Q) X.xe s
def Xy3 (K:Frag)(ta tv:TE)(rd:V->V->Hp->VK->Prop)(f:Str):TS:=λD Y H=>ta Y H λx H1=>∃a C dx fs v,x = .ref a/\H1 a=some (.ins C dx fs)/\Cls K C/\Xkv K C f/\fs.lookup f=some v/\
 tv Y H1 λy H2=>rd v y H2 λz H3=>∃dx' fs',H3 a=some (.ins C dx' fs')/\fs'.length<1000/\D.nx Y (upd H3 a (.ins C dx' (Xof f z fs')))
section
variable {X:Cx}{o e value:Expr}{f:Str}{pos pos' tpos:Pos}{ta tv:TE}
theorem Xc9 (he:PE X e ta)(hb:attributeBase e f X.env (eval e X.env)=eval e X.env):PE X (.Attribute e f pos) (Yj8 X.K ta f):=by
 intro pins s Y H Q I h
 refine Yjd hb (thn (he pins s Y H _ I h) λu s1 ⟨x,H1,I1,rx,a,C,dx,fs,v,ex,ea,c,n,l,q⟩=>?_)
 subst ex
 obtain rfl:u=Value.ref a:=rx
 exact Xpq I1 ea c n l λu' s2 I2 ru=>⟨v,H1,I2,ru,q⟩
theorem Xng (ha:PE X o ta)(hv:PE X value tv)(hs:swapsWith value (some (.Attribute o f pos')) pos.line X.env=pure false):PS X (.Assign [.Attribute o f pos'] value pos) (Ynl X.K ta tv f):=by
 intro pins s Y H D I h
 refine plainObj_wpAny_Assign_Attribute (thn (hv pins s Y H _ I h) λu s1 ⟨y,H1,I1,ry,q⟩=>thn (ha pins s1 Y H1 _ I1 q) λov s2 ⟨x,H2,I2,rx,a,C,dx,fs,ex,ea,c,n,l,q2⟩=>?_) hs
 subst ex
 obtain rfl:ov=Value.ref a:=rx
 exact Xpg I2 ea c n l ry λs3 I3=>⟨Y,_,I3,q2⟩
theorem Xr4 {rd:V->V->Hp->VK->Prop}(ha:PE X o ta)(hv:PE X value tv)(hop:Yok X op rd):PS X (.AugAssign (.Attribute o f tpos) op value pos) (Xy3 X.K ta tv rd f):=by
 intro pins s Y H D I h
 refine wpAny_AugAssign_AttributeAny (thn (ha pins s Y H _ I h) λov s1 ⟨x,H1,I1,rx,a,C,dx,fs,v,ex,ea,c,n,l,q⟩=>?_)
 subst ex
 obtain rfl:ov=Value.ref a:=rx
 refine Xpq I1 ea c n l λu s2 I2 ru=>thn (hv pins s2 Y H1 _ I2 q) λw3 s3 ⟨y,H2,I3,ry,q3⟩=>thn (hop pins s3 Y H2 v y u w3 _ I3 ru ry q3) λw4 s4 ⟨z,H3,I4,rz,dx',fs',ea',l',q4⟩=>?_
 exact Xpg I4 ea' c n l' rz λs5 I5=>⟨Y,_,I5,q4⟩
def Ypx:V->V->Hp->VK->Prop:=λx y H Q=>∃i j,x = .int i/\y = .int j/\Q (.int (i+j)) H
def Ypu:V->V->Hp->VK->Prop:=λx y H Q=>∃i j,x = .int i/\y = .int j/\Q (.int (i-j)) H
theorem Yly:Yok X .Add Ypx:=by
 rintro pins s Y H x y u v Q I rx ry ⟨i,j,rfl,rfl,q⟩
 obtain⟨t,rfl⟩:=(show ∃t,u=Value.int i t from rx)
 obtain⟨t',rfl⟩:=(show ∃t',v=Value.int j t' from ry)
 exact PyProof.Rows.iadd_int ⟨.int (i+j),H,I.tok _,⟨_,rfl⟩,q⟩
theorem Ylx:Yok X .Sub Ypu:=by
 rintro pins s Y H x y u v Q I rx ry ⟨i,j,rfl,rfl,q⟩
 obtain⟨t,rfl⟩:=(show ∃t,u=Value.int i t from rx)
 obtain⟨t',rfl⟩:=(show ∃t',v=Value.int j t' from ry)
 exact PyProof.Rows.isub_int ⟨.int (i-j),H,I.tok _,⟨_,rfl⟩,q⟩
end
section
variable {X:Cx}{pins:List (Addr×Obj)}{Y:St}{H:Hp}{s:Shared}{A:Around}{E:Value->Shared->Prop}{Q:Value->Shared->Prop}{c:Value}{b:Bool}
inductive TyOf (K:Frag) (H:Hp):V->Value->Prop where
 |non:TyOf K H .non (.type "NoneType")
 |bl (x:Bool):TyOf K H (.bl x) (.type "bool")
 |int (i:Int):TyOf K H (.int i) (.type "int")
 |str (x:Str):TyOf K H (.str x) (.type "str")
 |flt (x:UInt64):TyOf K H (.flt x) (.type "float")
 |lst {a:Addr} {xs:List V} (e:H a=some (.lst xs)):TyOf K H (.ref a) (.type "list")
 |frz {a:Addr} {o:Obj} {xs:List V} (e:H a=some (.frz o (.lst xs))):TyOf K H (.ref a) (.type "list")
 |tup {a:Addr} {xs:List V} (e:H a=some (.tup xs)):TyOf K H (.ref a) (.type "tuple")
 |dK {a:Addr} {kvs:List (Key×V)} (e:H a=some (.dK kvs)):TyOf K H (.ref a) (.type "dict")
 |dT {a:Addr} {kvs:List (List Key×V)} (e:H a=some (.dT kvs)):TyOf K H (.ref a) (.type "dict")
 |ins {a C dx:Addr} {fs:List (Str×V)} (e:H a=some (.ins C dx fs)) (cl:Cls K C) (ha:PySem.W.findIn K (.ref C) "__class__"=some (some (.builtin "object.__class__")))
   (hn:PySem.W.specialIn K (.builtin "object.__class__") "__get__"=some (some (.builtin "getset_descriptor.__get__"))) (htk:PySem.W.takesIn K (.builtin "object.__class__")=some true)
   (hm:PySem.W.mroIn K C (.type "object")=some true):TyOf K H (.ref a) (.ref C)
theorem Xkq {x:V}{u t:Value}(I:Inv X pins Y H s)(rx:Xdh x u)(ty:TyOf X.K H x t)(e:kitOne X.K t c=some b)(h:∀tk,Q (.bool b) {s with toks:=tk}):
  wpAny (model X.prog X.w) A (call (.builtin "isinstance") [u,c]) Q E s:=by
 cases ty with
 |non=>cases (show u=Value.none from rx);exact kia_one PySem.W.kitx_none I.kIn True.intro e (λz=>nomatch z) h
 |bl y=>cases (show u=Value.bool y from rx);exact kia_one PySem.W.kitx_bool I.kIn True.intro e (λz=>nomatch z) h
 |int i=>obtain⟨t,q⟩:=(show ∃t,u=Value.int i t from rx);cases q;exact kia_one PySem.W.kitx_int I.kIn True.intro e (λz=>nomatch z) h
 |str y=>obtain⟨t,q⟩:=(show ∃t,u=Value.str y t from rx);cases q;exact kia_one PySem.W.kitx_str I.kIn True.intro e (λz=>nomatch z) h
 |flt y=>obtain⟨t,q⟩:=(show ∃t,u=Value.float y t from rx);cases q;exact kia_one PySem.W.kitx_float I.kIn True.intro e (λz=>nomatch z) h
 | @lst a xs ea=>
  cases (show u=Value.ref a from rx)
  obtain⟨_,_,n,_,h1⟩:=(show Xe7 X.prog X.w H s.heap a (.lst xs) from I.hok a _ ea)
  exact kia_one kitx_list I.kIn ⟨_,h1,rfl⟩ e (λz=>nomatch z) h
 | @frz a ob xs ea=>
  cases (show u=Value.ref a from rx)
  obtain⟨_,_,_,n,_,h1⟩:=(show Xe7 X.prog X.w H s.heap a (.frz ob (.lst xs)) from I.hok a _ ea)
  exact kia_one kitx_list I.kIn ⟨_,h1,rfl⟩ e (λz=>nomatch z) h
 | @tup a xs ea=>
  cases (show u=Value.ref a from rx)
  obtain⟨_,_,_,p⟩:=(show Xe7 X.prog X.w H s.heap a (.tup xs) from I.hok a _ ea)
  obtain⟨o,h1,h2,_⟩:=p
  exact kia_one kitx_tuple I.kIn ⟨o,h1,h2⟩ e (λz=>nomatch z) h
 | @dK a kvs ea=>
  cases (show u=Value.ref a from rx)
  obtain⟨_,_,vs,_,p⟩:=(show Xe7 X.prog X.w H s.heap a (.dK kvs) from I.hok a _ ea)
  obtain⟨o,es,ep,h1,h2,_⟩:=p
  exact kia_one kitx_dict I.kIn ⟨o,h1,h2.1⟩ e (λz=>nomatch z) h
 | @dT a kvs ea=>
  cases (show u=Value.ref a from rx)
  obtain⟨_,_,xs,_,o,es,ep,h1,h2,_⟩:=(show Xe7 X.prog X.w H s.heap a (.dT kvs) from I.hok a _ ea)
  exact kia_one kitx_dict I.kIn ⟨o,h1,h2.1⟩ e (λz=>nomatch z) h
 | @ins a C dx fs ea cl ha hn htk hm=>
  cases (show u=Value.ref a from rx)
  obtain⟨mA,O,_⟩:=Xqu I.hok ea
  obtain⟨od,J,_⟩:=O.look
  exact kia_one (PySem.W.kitx_own (cl.get _) cl.hd ha hn htk hm) I.kIn J e (λz=>nomatch z) h
end
structure Room (k:Nat) (A:Around):Prop where
 hd:A.handled=none
 dp:A.depth+3*k+5<recursionLimit
 un:A.units+16*k+200<cLine
theorem Room.mono {A:Around}(r:Room k A)(h:j<=k):Room j A:=⟨r.hd,by have:=r.dp;lia,by have:=r.un;lia⟩
theorem Room.deeper {A:Around}(r:Room (k+1) A)(env:Env):Room k (A.deeper env):=
 ⟨r.hd,by have:=r.dp;show A.depth+1+3*k+5<_;lia,by have:=r.un;show A.units+3+16*k+200<_;lia⟩
theorem Xxg {A:Around}{C:Addr}{us:List Value}{kw:List (Str×Value)}:(A.under (.builtin "type.__call__" ⟨.ref C::us,kw⟩)).depth=A.depth+1:=by
 first |rfl |simp[ guardIds]
theorem Xxf {A:Around}{C:Addr}{us:List Value}{kw:List (Str×Value)}:(A.under (.builtin "type.__call__" ⟨.ref C::us,kw⟩)).units=A.units+1:=by
 first |rfl |simp[ Code.isFrame]
theorem Room.make {A:Around}(r:Room (k+1) A)(C:Addr)(us:List Value)(kw:List (Str×Value)):Room k (A.under (.builtin "type.__call__" ⟨.ref C::us,kw⟩)):=
 ⟨r.hd,by have:=r.dp;rw[Xxg];lia,by have:=r.un;rw[Xxf];lia⟩
theorem Room.depth {A:Around}(r:Room k A):A.depth<recursionLimit:=by have:=r.dp;lia
theorem Room.units {A:Around}(r:Room k A):A.units+64<cLine:=by have:=r.un;lia
def Xoi:TA:=λ_ H Q=>Q [] H
def Xfr (ta:TE)(tr:TA):TA:=λY H Q=>ta Y H λx H1=>tr Y H1 λxs H2=>Q (x::xs) H2
section
variable {X:Cx}{e:Expr}{es:List Expr}{te:TE}{t:TA}{pos:Pos}
theorem Xac:PA X [] Xoi:=λ_ _ _ _ H Q I h=>Calls.spliced_nil ⟨[],H,I,.nil,h⟩
theorem Xaa (ha:PE X e te)(hr:PA X es t)(hs:starEach (e::es) X.env=(false,eval e X.env)::starEach es X.env:=by rfl):PA X (e::es) (Xfr te t):=by
 intro pos pins s Y H Q I h
 rw[hs]
 refine Calls.spliced_cons (thn (ha pins s Y H _ I h) λu s1 ⟨x,H1,I1,r1,q1⟩=>?_)
 exact thn (hr pos pins s1 Y H1 _ I1 q1) λus s2 ⟨xs,H2,I2,r2,q2⟩=>⟨x::xs,H2,I2,.cons r1 r2,q2⟩
end
abbrev Sp:=List V->Hp->VK->XK->Prop
abbrev CXT:=List Env->Hp->Shared->XK->Value->Shared->Prop
structure Env0 (P:Program) (w:World) (K:Frag) (mg:Str->Option Value) (base:Heap) (A:Around) (outer:List Env) (s:Shared) (H:Hp):Prop where
 frames:A.frames=some outer
 mod:Mod K mg base
 bs:∀b o,base.get? b=some o->s.heap.get? b=some o/\H b=none
 bsz:base.objs.size<=s.heap.objs.size
 funs:s.heap.FunFrames base outer
 frf:∀b∈frs outer,H b=none
 hok:HOk P w H s.heap
 bare:AllBare s.gens
def CE (outer:List Env)(P:Program)(w:World)(H:Hp)(s:Shared)(Q:VK)(u:Value)(s':Shared):Prop:=
 ∃v H',s'.os=s.os/\AllBare s'.gens/\Un (frs outer) [] H H' s.heap s'.heap/\HOk P w H' s'.heap/\Xdh v u/\Q v H'
def CR (CX:CXT)(outer:List Env)(P:Program)(w:World)(H:Hp)(s:Shared)(Q:VK)(E:XK)(r:Result)(s':Shared):Prop:=
 match r with
 | .ok (.ret u)=>CE outer P w H s Q u s'
 | .ok _=>False
 | .error e=>CX outer H s E e s'
structure FnOk (P:Program) (w:World) (K:Frag) (mg:Str->Option Value) (base:Heap) (CX:CXT) (k:Nat) (f:Addr) (fd:FuncData) (ps:List Str) (sp:Sp):Prop where
 len:∀vs H Q E,sp vs H Q E->vs.length=ps.length
 run:∀(A:Around) (outer:List Env) (s:Shared) (H:Hp) (args:Args) (us:List Value) (vs:List V) (Q:VK) (E:XK),Room k A->Env0 P w K mg base A outer s H->BindsTo s fd args (ps.zip us)->Xbz vs us->sp vs H Q E->
  codeAny (model P w) A (.call (.ref f) args) (CR CX outer P w H s Q E) s
theorem FnOk.mono {P:Program}{w:World}{K:Frag}{mg:Str->Option Value}{base:Heap}{CX:CXT}{j k:Nat}{f:Addr}{fd:FuncData}{ps:List Str}{sp:Sp}(F:FnOk P w K mg base CX j f fd ps sp)(h:j<=k):
  FnOk P w K mg base CX k f fd ps sp:=⟨F.len,λA outer s H args us vs Q E hr=>F.run A outer s H args us vs Q E (hr.mono h)⟩
theorem Env0.make {P:Program}{w:World}{K:Frag}{mg:Str->Option Value}{base:Heap}{A:Around}{outer:List Env}{s:Shared}{H:Hp}(e:Env0 P w K mg base A outer s H)(C:Addr)(us:List Value)(kw:List (Str×Value)):
  Env0 P w K mg base (A.under (.builtin "type.__call__" ⟨.ref C::us,kw⟩)) outer s H:=⟨by first |exact e.frames | (simpa[ pushEnvs] using e.frames),e.mod,e.bs,e.bsz,e.funs,e.frf,e.hok,e.bare⟩
section
variable {X:Cx}{pins:List (Addr×Obj)}{Y:St}{H:Hp}{s s':Shared}
theorem Inv.env0 (I:Inv X pins Y H s):Env0 X.prog X.w X.K X.mg X.base X.A X.stack s H:=
 ⟨I.ok.frames,I.ok.mod,I.bs,le_trans I.ok.bsz I.sz,I.stack,I.stkFree,I.hok,I.bare⟩
theorem Inv.after (I:Inv X pins Y H s)(h:CE X.stack X.prog X.w H s Q u s'):EP X pins Y Q u s':=by
 obtain⟨v,H',os,bare,un,hok,r,q⟩:=h
 obtain⟨hh,g,d,t,os'⟩:=s'
 obtain rfl:os'=s.os:=os
 exact⟨v,H',I.call (h':=hh) (g':=g) (d':=d) (t':=t) (ch:=[]) un hok bare (λb z=>absurd z (by simp)),r,q⟩
end
def Xyf (sp:Sp)(dvs:List V)(E:XK)(t:TA):TE:=λY H Q=>t Y H λvs H1=>sp (vs++dvs) H1 Q E
def Yf3 (C:Addr)(m:Str)(sp:Sp)(dvs:List V)(E:XK)(ta:TE)(t:TA):TE:=λY H Q=>ta Y H λx H1=>∃a dx fs,x = .ref a/\H1 a=some (.ins C dx fs)/\fs.lookup m=none/\
 t Y H1 λvs H2=>sp (x::(vs++dvs)) H2 Q E
def Yj7 (C:Addr)(sp:Sp)(dvs:List V)(E:XK)(t:TA):TE:=λY H Q=>t Y H λvs H1=>∀x dx,H1 x=none->H1 dx=none->dx≠x->
 sp (.ref x::(vs++dvs)) (upd (upd H1 dx (.own x)) x (.ins C dx [])) (λv H2=>v = .non/\Q (.ref x) H2) E
def Xj0 (K:Frag)(fd:FuncData)(ps:List Str)(ds:List Value):Prop:=
 ∀(s:Shared) (us:List Value),K.In s.heap->(us++ds).length=ps.length->BindsTo s fd ⟨us,[]⟩ (ps.zip (us++ds))
theorem Xj0.all {K:Frag}{fd:FuncData}{ps:List Str}(h:∀us:List Value,us.length=ps.length->bindArgs fd ⟨us,[]⟩=pure (ps.zip us)):Xj0 K fd ps []:=λs us _ hl=>by
 rw[append_nil]at hl ⊢
 exact .of_eq (h us hl)
def Xoc (CX:CXT)(X:Cx)(E:XK):Prop:=∀(pins:List (Addr×Obj)) (Y:St) (H:Hp) (s:Shared) (e:Value) (s':Shared),Inv X pins Y H s->CX X.stack H s E e s'->X.xe e s'
section
variable {X:Cx}{CX:CXT}{k:Nat}{f C:Addr}{fd:FuncData}{ps:List Str}{sp:Sp}{dvs:List V}{ds:List Value}{E:XK}{x m:Str}{p pos apos:Pos}{e o:Expr}{es:List Expr}{ta:TE}{t:TA}
theorem Xvf {Y:St}{H:Hp}(F:FnOk X.prog X.w X.K X.mg X.base CX k f fd ps sp)(hr:Room k X.A)(hb:Xj0 X.K fd ps ds)(hd:Xbz dvs ds)(hx:Xoc CX X E)
  (I:Inv X pins Y H s) (r:Xbz vs us) (h:sp (vs++dvs) H Q E):wpAny (model X.prog X.w) X.A (call (.ref f) us) (EP X pins Y Q) X.xe s:=by
 have r2:Xbz (vs++dvs) (us++ds):=r.append hd
 have hl:(us++ds).length=ps.length:=by rw[<- r2.length];exact F.len _ _ _ _ h
 refine wpAny_call (codeAny_mono (F.run X.A X.stack s H ⟨us,[]⟩ (us++ds) (vs++dvs) Q E hr I.env0 (hb s us I.kIn hl) r2 h) λr s' hq=>?_)
 cases r with
 |error e=>exact hx pins Y H s e s' I hq
 |ok fl=>
  cases fl with
  |ret u=>exact I.after hq
  |next=>exact False.elim hq
  |brk=>exact False.elim hq
  |cont=>exact False.elim hq
theorem Yhs (F:FnOk X.prog X.w X.K X.mg X.base CX k f fd ps sp)(hr:Room k X.A)(hg:Gl X x)(hm:X.mg x=some (.ref f))(hk:keepIn X.K (.ref f)=true)(hb:Xj0 X.K fd ps ds)(hd:Xbz dvs ds)(hx:Xoc CX X E)
  (ha:PA X (e::es) t) (hdb:(x==("__debug__":Str))=false:=by decide) (he:starEach (e::es) X.env=(false,eval e X.env)::starEach es X.env:=by rfl) (hpl:(backTo pos (starEach es X.env)).any (·.1)=false:=by rfl):
  PE X (.Call (.Name x p) (e::es) [] pos) (Xyf sp dvs E t):=by
 intro pins s Y H Q I h
 refine wpAny_Call_Name_kw (Xh3 I hg hm ?_ hdb)
 refine callWith_K I.ok.mod.kin hk (thn (ha pos pins s Y H _ I h) λus s1 ⟨vs,H1,I1,r,q⟩=>⟨I1.kIn,?_⟩) he hpl
 exact Xvf F hr hb hd hx I1 r q
theorem Yhp (he:PE X o ta)(c:Cls X.K C)(hm:Meth X.K C m f)(F:FnOk X.prog X.w X.K X.mg X.base CX k f fd ps sp)(hr:Room k X.A)(hb:Xj0 X.K fd ps ds)(hd:Xbz dvs ds)(hx:Xoc CX X E)(ha:PA X (e::es) t)
  (hst:starEach (e::es) X.env=(false,eval e X.env)::starEach es X.env:=by rfl) (hpl:(backTo pos (starEach es X.env)).any (·.1)=false:=by rfl)
  (ht:eval (.Call (.Attribute o m apos) (e::es) [] pos) X.env=(do
   let ov <- eval o X.env
   standAt apos.atName
   let (f,first) <- holding [ov] (getMethod ov m pl)
   callWith pos f first (backTo pos (starEach (e::es) X.env)) (backToKw pos (keywordEach [] X.env))):=by rfl):
  PE X (.Call (.Attribute o m apos) (e::es) [] pos) (Yf3 C m sp dvs E ta t):=by
 intro pins s Y H Q I h
 refine PySem.W.methodCall_KW (thn (he pins s Y H _ I h) λu s1 ⟨x,H1,I1,rx,a,dx,fs,ex,ea,l,q⟩=>?_) ht
 subst ex
 obtain rfl:u=Value.ref a:=rx
 refine Xpp I1 ea c hm l ?_
 refine callWith_K (first:=[.ref a]) I.ok.mod.kin hm.kp (thn (ha pos pins s1 Y H1 _ I1 q) λus s2 ⟨vs,H2,I2,r,q2⟩=>⟨I2.kIn,?_⟩) hst hpl
 exact Xvf (us:=.ref a::us) (vs:=.ref a::vs) F hr hb hd hx I2 (.cons rfl r) q2
theorem Yc2 (he:PE X o ta)(c:Cls X.K C)(hm:Meth X.K C m f)(F:FnOk X.prog X.w X.K X.mg X.base CX k f fd ps sp)(hr:Room k X.A)(hb:Xj0 X.K fd ps ds)(hd:Xbz dvs ds)(hx:Xoc CX X E)
  (ht:eval (.Call (.Attribute o m apos) [] [] pos) X.env=(do
   let ov <- eval o X.env
   standAt apos.atName
   let (f,first) <- holding [ov] (getMethod ov m pl)
   callWith pos f first (backTo pos (starEach [] X.env)) (backToKw pos (keywordEach [] X.env))):=by rfl):
  PE X (.Call (.Attribute o m apos) [] [] pos) (Yf3 C m sp dvs E ta Xoi):=by
 intro pins s Y H Q I h
 refine PySem.W.methodCall_KW (thn (he pins s Y H _ I h) λu s1 ⟨x,H1,I1,rx,a,dx,fs,ex,ea,l,q⟩=>?_) ht
 subst ex
 obtain rfl:u=Value.ref a:=rx
 refine Xpp I1 ea c hm l ?_
 exact PySem.W.callWith_K0 (first:=[.ref a]) I1.kIn hm.kp (Xvf (us:=[.ref a]) (vs:=[.ref a]) F hr hb hd hx I1 (.cons rfl .nil) q)
structure Mk (K:Frag) (C f:Addr):Prop where
 makes:makesIn K C=true
 init:PySem.W.findIn K (.ref C) "__init__"=some (some (.ref f))
 fn:isFn K (.ref f)=true
 kp:keepIn K (.ref C)=true
theorem Ycp {Y:St}{H:Hp}(M:Mk X.K C f)(F:FnOk X.prog X.w X.K X.mg X.base CX k f fd ps sp)(hr:Room (k+1) X.A)(hb:Xj0 X.K fd ps ds)(hd:Xbz dvs ds)
  (hx:Xoc CX X E) (I:Inv X pins Y H s) (r:Xbz vs us)
  (h:∀x dx,H x=none->H dx=none->dx≠x->sp (.ref x::(vs++dvs)) (upd (upd H dx (.own x)) x (.ins C dx [])) (λv H2=>v = .non/\Q (.ref x) H2) E):
  wpAny (model X.prog X.w) X.A (call (.ref C) us) (EP X pins Y Q) X.xe s:=by
 have hq:=h (s.heap.objs.size+1) s.heap.objs.size (I.hok.fresh (le_succ _)) (I.hok.fresh (Nat.le_refl _)) (ne_of_lt (Nat.lt_succ_self _))
 have I2:=Inv.made (C:=C) I
 have r2:Xbz (V.ref (s.heap.objs.size+1)::(vs++dvs)) (Value.ref (s.heap.objs.size+1)::(us++ds)):=.cons rfl (r.append hd)
 have hl:(Value.ref (s.heap.objs.size+1)::us++ds).length=ps.length:=by
  have e:=r2.length
  rw[F.len _ _ _ _ hq]at e
  exact e.symm
 refine wpAny_call (Ydh I.kIn M.makes M.init (beq_iff_eq.mp M.fn) (codeAny_mono (F.run _ X.stack _ _ ⟨Value.ref (s.heap.objs.size+1)::us,[]⟩ (Value.ref (s.heap.objs.size+1)::(us++ds)) _ _ E (hr.make C us [])
  (I2.env0.make C us []) (hb _ (Value.ref (s.heap.objs.size+1)::us) I2.kIn hl) r2 hq) λr s' hq'=>?_))
 cases r with
 |error e=>exact hx pins Y _ _ e s' I2 hq'
 |ok fl=>
  cases fl with
  |ret u=>
   obtain⟨v,H',I3,rv,ev,q3⟩:=I2.after hq'
   subst ev
   exact⟨rv,⟨V.ref (s.heap.objs.size+1),H',I3,rfl,q3⟩⟩
  |next=>exact False.elim hq'
  |brk=>exact False.elim hq'
  |cont=>exact False.elim hq'
theorem Yhq (M:Mk X.K C f)(F:FnOk X.prog X.w X.K X.mg X.base CX k f fd ps sp)(hr:Room (k+1) X.A)(hg:Gl X x)(hm:X.mg x=some (.ref C))(hb:Xj0 X.K fd ps ds)(hd:Xbz dvs ds)(hx:Xoc CX X E)
  (ha:PA X (e::es) t) (hdb:(x==("__debug__":Str))=false:=by decide) (he:starEach (e::es) X.env=(false,eval e X.env)::starEach es X.env:=by rfl) (hpl:(backTo pos (starEach es X.env)).any (·.1)=false:=by rfl):
  PE X (.Call (.Name x p) (e::es) [] pos) (Yj7 C sp dvs E t):=by
 intro pins s Y H Q I h
 refine wpAny_Call_Name_kw (Xh3 I hg hm ?_ hdb)
 refine callWith_K I.ok.mod.kin M.kp (thn (ha pos pins s Y H _ I h) λus s1 ⟨vs,H1,I1,r,q⟩=>⟨I1.kIn,?_⟩) he hpl
 exact Ycp M F hr hb hd hx I1 r q
end
section
variable {X:Cx}{CX:CXT}{k:Nat}{f C:Addr}{fd:FuncData}{ps ks:List Str}{sp:Sp}{E:XK}{x m:Str}{p pos apos kpos:Pos}{e o:Expr}{es:List Expr}{kws:List Keyword}{te ta:TE}{t tk:TA}{nm:Option Str}
variable {g:List Value->List Value->List Value}{gV:List V->List V->List V}
end
structure FnScope (N P:List Str) (sc:Scope):Prop where
 kind:sc.kind = .function
 co:sc.isCoroutine=false
 gen:sc.isGenerator=false
 nd:N.Nodup
 pre:N.take P.length=P
 par:∀x∈P,sc.names.lookup x=some .local∨sc.names.lookup x=some .cell
 nofree:∀y∈sc.names,y.2≠.free
theorem Xth {kindOf:Str->Option NameKind}:∀{binds:List (Str×Value)} {m:Str->Option Value},(∀v,(x,v)∉binds)->bindL kindOf binds m x=m x
 | [],_,_=>rfl
 | (n,v)::r,m,h=>by
  unfold bindL
  rw[Xth λw hw=>h w (mem_cons_of_mem _ hw)]
  split
  .have:x≠n:=by rintro rfl;exact h v mem_cons_self
   simp[this]
  .rfl
theorem Xtj {kindOf:Str->Option NameKind}:∀{binds:List (Str×Value)} {m:Str->Option Value},(∀v,(x,v)∉binds)->bindC kindOf binds m x=m x
 | [],_,_=>rfl
 | (n,v)::r,m,h=>by
  unfold bindC
  rw[Xtj λw hw=>h w (mem_cons_of_mem _ hw)]
  split
  .rfl
  .have:x≠n:=by rintro rfl;exact h v mem_cons_self
   simp[this]
theorem Xti {kindOf:Str->Option NameKind}:∀{P:List Str} {vs:List Value} {i:Nat} {m:Str->Option Value},P.Nodup->P[i]?=some x->vs[i]?=some v->kindOf x=some .local->
  bindL kindOf (P.zip vs) m x=some v
 | [],_,_,_,_,h,_,_=>by simp at h
 |_::_,[],_,_,_,_,h,_=>by simp at h
 |p::P,w::vs,0,m,nd,h1,h2,hk=>by
  simp at h1 h2;subst h1;subst h2
  show bindL kindOf ((p,w)::P.zip vs) m p=_
  unfold bindL
  rw[Xth λv hv=>(nodup_cons.mp nd).1 (of_mem_zip hv).1,if_pos hk]
  simp
 |p::P,w::vs,i+1,m,nd,h1,h2,hk=>by
  unfold bindL
  exact Xti (nodup_cons.mp nd).2 h1 h2 hk
theorem Xtk {kindOf:Str->Option NameKind}:∀{P:List Str} {vs:List Value} {i:Nat} {m:Str->Option Value},P.Nodup->P[i]?=some x->vs[i]?=some v->kindOf x≠some .local->
  bindC kindOf (P.zip vs) m x=some v
 | [],_,_,_,_,h,_,_=>by simp at h
 |_::_,[],_,_,_,_,h,_=>by simp at h
 |p::P,w::vs,0,m,nd,h1,h2,hk=>by
  simp at h1 h2;subst h1;subst h2
  show bindC kindOf ((p,w)::P.zip vs) m p=_
  unfold bindC
  rw[Xtj λv hv=>(nodup_cons.mp nd).1 (of_mem_zip hv).1,if_neg hk]
  simp
 |p::P,w::vs,i+1,m,nd,h1,h2,hk=>by
  unfold bindC
  exact Xtk (nodup_cons.mp nd).2 h1 h2 hk
def Xd3 (N:List Str)(vs:List V):St:=vs.map some++List.replicate (N.length-vs.length) none
def Xjs (CX:CXT)(P:Program)(w:World)(K:Frag)(mg:Str->Option Value)(base:Heap)(N:List Str)(qual:Str)(scope:Scope)(f:Addr)(cd:Value)(A:Around)(outer:List Env)(s:Shared)(H:Hp)(E:XK):Cx where
 prog:=P
 w:=w
 K:=K
 mg:=mg
 base:=base
 A:=A.deeper (envOfC qual scope s.heap.objs.size f cd)
 N:=N
 s₀:=s
 H₀:=H
 env:=envOfC qual scope s.heap.objs.size f cd
 outer:=outer
 stack:=envOfC qual scope s.heap.objs.size f cd::outer
 ex:=[]
 calm:=true
 fn:=λ_=>true
 pn:=[]
 xe:=λe s'=>wpAny (model P w) (A.deeper (envOfC qual scope s.heap.objs.size f cd)) (leaving (envOfC qual scope s.heap.objs.size f cd) e) (λ_ s''=>CX outer H s E e s'') (λe' s''=>CX outer H s E e' s'') s'
theorem Xwa {sc:Scope}{n:Nat}{x:Str}(h:sc.names.lookup x=some .cell):∃c,(cellsFrom n sc.names []).lookup x=some c:=by
 have q:=PySem.W.cellsFrom_some sc.names n [] (.inl h)
 exact Option.isSome_iff_exists.mp q
theorem Yan {CX:CXT}{P:Program}{w:World}{K:Frag}{mg:Str->Option Value}{base:Heap}{N ps:List Str}{qual:Str}{scope:Scope}{f:Addr}{cd:Value}{A:Around}{outer:List Env}{s s1:Shared}{H:Hp}{E:XK}{us:List Value}{vs:List V}
  (S:FnScope N ps scope) (hd:A.handled=none) (e0:Env0 P w K mg base A outer s H) (hl:vs.length=ps.length) (r:Xbz vs us)
  (x:InCallC s s.heap.objs.size (bindL (envOfC qual scope s.heap.objs.size f cd).kindOf (ps.zip us) λ_=>none) (cellsFrom (s.heap.objs.size+1) scope.names []) (bindC (envOfC qual scope s.heap.objs.size f cd).kindOf (ps.zip us) λ_=>none) s1):
  Inv (Xjs CX P w K mg base N qual scope f cd A outer s H E) [] (Xd3 N vs) H s1:=by
 have hpl:ps.length<=N.length:=by have:=congrArg List.length S.pre;rw[length_take]at this;lia
 obtain⟨h1,tk,rfl,hk⟩:=x.done
 have noA:∀b:Addr,b∉(Xjs CX P w K mg base N qual scope f cd A outer s H E).ex:=λb z=>absurd (show b∈([]:List Addr) from z) (by simp)
 refine⟨⟨e0.mod,S.kind,rfl,rfl,Nat.le_refl _,λy z c h1 h2=>?_,λy hy=>?_,λy c _ h=>?_,λ_=>hd,Around.frames_deeper e0.frames,.inr ⟨rfl,rfl⟩,λb z=>absurd z (noA b),e0.bs,e0.bsz,λb _ _=>noA b,λb z=>absurd z (noA b),e0.funs,e0.frf⟩,
  rfl,e0.bare,Un.kept hk,⟨_,x.toInCall.ns,λi y v h1 h2 h3=>?_⟩,λy c h=>⟨_,x.cell y c h⟩,e0.hok.fresh (Nat.le_refl _),λy c h=>?_,λp hp=>absurd (show p∈([]:List (Addr×Obj)) from hp) (by simp),e0.hok.kept hk,?_⟩
 .exact name_of_addr x.apart (PySem.mem_of_lookup h1) (PySem.mem_of_lookup h2)
 .rcases hy with hy |hy
  .exact Xwa hy
  .exact absurd rfl (S.nofree _ (PySem.mem_of_lookup hy))
 .exact le_of_lt (x.above y c (PySem.mem_of_lookup h))
 .have hi:i<vs.length:=by
   unfold Xd3 at h2
   by_cases hi:i<vs.length
   .exact hi
   .rw [getElem?_append_right (by simpa using hi)]at h2
    rw[List.getElem?_replicate]at h2
    split at h2<;>cases h2
  have ha:vs[i]?=some v:=by
   unfold Xd3 at h2
   rw[getElem?_append_left (by simpa using hi),getElem?_map]at h2
   cases e:vs[i]? with
   |none=>rw[e]at h2;cases h2
   |some a=>rw[e]at h2;cases h2;rfl
  obtain⟨u,hu,rv⟩:=r.get ha
  have hp:ps[i]?=some y:=by
   rw[<- S.pre,List.getElem?_take_of_lt (by lia)];exact h1
  have ndP:ps.Nodup:=by rw[<- S.pre];exact S.nd.sublist (List.take_sublist _ _)
  refine⟨u,rv,?_⟩
  rcases S.par y (mem_of_getElem? hp) with k |k
  .exact .inl ⟨k,Xti ndP hp hu k⟩
  .obtain ⟨c,e⟩:=Xwa (n:=s.heap.objs.size+1) k
   refine .inr ⟨.inl k,c,e,?_⟩
   have q:=x.cell y c e
   rw[Xtk ndP hp hu (by show scope.names.lookup y≠_;rw[k];decide)]at q
   exact q
 .exact e0.hok.fresh (le_of_lt (x.above y c (PySem.mem_of_lookup h)))
 .unfold Xd3
  show _=N.length
  rw[length_append,length_map,length_replicate]
  lia
theorem Yi1 {CX:CXT}{P:Program}{w:World}{K:Frag}{mg:Str->Option Value}{base:Heap}{k:Nat}{f:Addr}{name qual:Str}{params:Arguments}{body:List Stmt}{scope:Scope}{dV kV doc pm cdv ct oc:Value}{an od:Option Addr}
  {osl:Array (Option Value)} {N ps:List Str} {sp:Sp} (lk:K.lookup f=some ⟨oc,od,.func (fnOf name qual params body scope dV kV doc pm an cdv ct),osl⟩) (hcd:codeIn K cdv qual=true) (S:FnScope N ps scope)
  (len:∀vs H Q E,sp vs H Q E->vs.length=ps.length)
  (hbody:∀(A:Around) (outer:List Env) (s:Shared) (H:Hp) (vs:List V) (Q:VK) (E:XK),Room k (A.deeper (envOfC qual scope s.heap.objs.size f cdv))->sp vs H Q E->
   ∃t,PSs (Xjs CX P w K mg base N qual scope f cdv A outer s H E) body t/\t {nx:=λ_ H'=>Q .non H',rt:=Q} (Xd3 N vs) H):
  FnOk P w K mg base CX (k+1) f (fnOf name qual params body scope dV kV doc pm an cdv ct) ps sp:=by
 refine⟨len,λA outer s H args us vs Q E hr e0 hb r hsp=>?_⟩
 have hl:=len _ _ _ _ hsp
 have KX:K.In s.heap:=e0.mod.kin.keeps λb o e=>(e0.bs b o e).1
 have lim:s.heap.NoLimit:=e0.mod.nolimit.keeps λb o e=>(e0.bs b o e).1
 have hkind:∀y∈ps.zip us,scope.names.lookup y.1=some .local∨(scope.names.lookup y.1=some .cell/\((cellsFrom (s.heap.objs.size+1) scope.names []).lookup y.1).isSome=true):=λ⟨n,v⟩ hy=>by
  rcases S.par n (of_mem_zip hy).1 with q |q
  .exact .inl q
  .exact .inr ⟨q,PySem.W.cellsFrom_some _ _ _ (.inl q)⟩
 refine codeAny_call_function hr.depth (KX _ _ lk) rfl S.co S.gen rfl (PySem.W.codeRec_of KX hcd) (hb _ _ _ _ ?_)
 refine wpAny_newFunctionEnv_cells S.kind hkind λenv he s1 x=>?_
 subst he
 refine⟨lim.keeps x.toInCall.keep,codeAny_func ?_⟩
 obtain⟨t,ht,hq⟩:=hbody A outer s H vs Q E (hr.deeper _) hsp
 have I:Inv (Xjs CX P w K mg base N qual scope f cdv A outer s H E) [] (Xd3 N vs) H s1:=Yan S hr.hd e0 hl r x
 refine wpAny_mono (ht [] s1 (Xd3 N vs) H _ I hq) (λfl s' hs=>?_) λe s' hs=>hs
 have fin:∀{Y':St} {H':Hp} {v:V} {u:Value},Inv (Xjs CX P w K mg base N qual scope f cdv A outer s H E) [] Y' H' s'->Xdh v u->Q v H'->CE outer P w H s Q u s':=
  λ{Y' H' v u} J rv q=>⟨v,H',J.os,J.bare,J.base,J.hok,rv,q⟩
 cases fl with
 |ret u=>
  obtain⟨v,Y',H',J,rv,q⟩:=hs
  exact fin J rv q
 |next=>
  obtain⟨Y',H',J,q⟩:=hs
  exact fin (v:=V.non) J rfl q
 |brk=>
  obtain⟨_,_,_,q⟩:=hs
  exact False.elim q
 |cont=>
  obtain⟨_,_,_,q⟩:=hs
  exact False.elim q
section
variable {X:Cx}{x:Str}{p pos:Pos}{e:Expr}{es:List Expr}{t:TA}{id T:String}{r:List V->Hp->VK->Prop}
def tCB (r:List V->Hp->VK->Prop)(t:TA):TE:=λY H Q=>t Y H λvs H1=>r vs H1 Q
theorem Xar (hc:Xhb X (.builtin id) r)(hg:Gl X x)(hm:X.mg x=none)(hv:bootBuiltins x=some (.builtin id))(ha:PA X (e::es) t)(hn:x ≠ "__name__":=by decide)(hdb:(x==("__debug__":Str))=false:=by decide)
  (he:starEach (e::es) X.env=(false,eval e X.env)::starEach es X.env:=by rfl) (hpl:(backTo pos (starEach es X.env)).any (·.1)=false:=by rfl):PE X (.Call (.Name x p) (e::es) [] pos) (tCB r t):=by
 intro pins s Y H Q I h
 refine wpAny_Call_Name_kw (Xkp I hg hm hv ?_ hn hdb)
 exact PyProof.Rows.callWith_builtin1 (thn (ha pos pins s Y H _ I h) λus s1 ⟨vs,H1,I1,r1,q1⟩=>hc pins s1 Y H1 vs us Q I1 r1 q1) he hpl
theorem Xdg (hc:Xhb X (.type T) r)(hg:Gl X x)(hm:X.mg x=none)(hv:bootBuiltins x=some (.type T))(ha:PA X (e::es) t)(hn:x ≠ "__name__":=by decide)(hdb:(x==("__debug__":Str))=false:=by decide)
  (he:starEach (e::es) X.env=(false,eval e X.env)::starEach es X.env:=by rfl) (hpl:(backTo pos (starEach es X.env)).any (·.1)=false:=by rfl):PE X (.Call (.Name x p) (e::es) [] pos) (tCB r t):=by
 intro pins s Y H Q I h
 refine wpAny_Call_Name_kw (Xkp I hg hm hv ?_ hn hdb)
 exact PyProof.Rows.callWith_type1 (thn (ha pos pins s Y H _ I h) λus s1 ⟨vs,H1,I1,r1,q1⟩=>hc pins s1 Y H1 vs us Q I1 r1 q1) he hpl
end
end L2
namespace HT
open PySem PyProof.Rows
section
open PySem.SeqAt
open PySem.AutoSeq1 (wpAny_loadPart')
open PySem.MeetsSeq PySem.MeetsSeq2 PySem.MeetsSeq3
end
section
variable {prog:Program}{w:World}{A:Around}{E:Value->Shared->Prop}{s:Shared}
def sIx (n d:Nat):Option Int->Nat
 |none=>d
 |some v=>if v<0 then (v+(n:Int)).toNat else min v.toNat n
theorem sIx_nat (n d k:Nat):sIx n d (some (k:Int))=min k n:=by
 show (if (k:Int)<0 then ((k:Int)+(n:Int)).toNat else min (k:Int).toNat n)=min k n
 rw[if_neg (by lia),toNat_natCast]
theorem Ybn (v:Int)(n d:Nat):(if v<0 then max (v+(n:Int)) 0 else min v (n:Int))=((sIx n d (some v):Nat):Int):=by
 show (if v<0 then max (v+(n:Int)) 0 else min v (n:Int))=(((if v<0 then (v+(n:Int)).toNat else min v.toNat n):Nat):Int)
 by_cases hv:v<0
 .simp only[if_pos hv];lia
 .simp only[if_neg hv];lia
theorem Xxu (lo hi:Option Int)(n:Nat):Builtin.Slice.sliceAdjust lo hi 1 (n:Int)=(((sIx n 0 lo:Nat):Int),((sIx n n hi:Nat):Int)):=by
 have h1:¬ ((1:Int)<0):=by lia
 unfold Builtin.Slice.sliceAdjust
 refine Prod.ext ?_ ?_
 .cases lo with
  |none=>rfl
  |some v=>exact Ybn v n 0
 .cases hi with
  |none=>rfl
  |some v=>exact Ybn v n n
theorem Xw2 (i j:Nat):Builtin.Slice.slicePlaces (i:Int) (j:Int) 1=j-i:=by
 unfold Builtin.Slice.slicePlaces
 have h1:(1:Int) > 0:=by lia
 split<;>lia
theorem Xpe {v:Value}{o:Option Int}{Q:Option Int->Shared->Prop}(p:IsPart v o)(h:Q o s):wpAny (model prog w) A (Builtin.Slice.slicePartIndex v) Q E s:=by
 cases p with
 |none=>exact slicePart_none h
 |int i t=>exact slicePart_int h
theorem sliceApplied_gen {sl:Addr}{vl vu:Value}{lo hi:Option Int}{n:Nat}{Q:Int×Int×Nat->Shared->Prop}(hs:s.heap.IsSliceOf sl vl vu .none)(pl:IsPart vl lo)(pu:IsPart vu hi)
  (h:Q (((sIx n 0 lo:Nat):Int),1,sIx n n hi-sIx n 0 lo) s):wpAny (model prog w) A (Builtin.Slice.sliceApplied (.ref sl) (pure (n:Int))) Q E s:=by
 obtain⟨os,hos,hcs,hds⟩:=id hs
 refine wpAny_bind (wpAny_bind (wpAny_field hos hds rfl (wpAny_bind (wpAny_field hos hds rfl (wpAny_bind (wpAny_field hos hds rfl (wpAny_pure ?_)))))))
 refine wpAny_bind (slicePart_none ?_)
 refine wpAny_bind (Xpe pl (wpAny_bind (Xpe pu (wpAny_bind (wpAny_pure ?_)))))
 show wpAny _ _ (match Builtin.Slice.sliceAdjust lo hi 1 (n:Int) with | (lo,hi)=>pure (lo,(1:Int),Builtin.Slice.slicePlaces lo hi 1)) _ _ s
 rw[Xxu lo hi n]
 show wpAny _ _ (pure (((sIx n 0 lo:Nat):Int),(1:Int),Builtin.Slice.slicePlaces ((sIx n 0 lo:Nat):Int) ((sIx n n hi:Nat):Int) 1)) _ _ s
 rw[Xw2]
 exact wpAny_pure h
theorem Ycz (xs:Array Value)(i k:Nat):((List.range k).filterMap λ(m:Nat)=>xs[((i:Int)+(m:Int)*1).toNat]?).toArray=((xs.toList.drop i).take k).toArray:=by
 have e:(λ(m:Nat)=>xs[((i:Int)+(m:Int)*1).toNat]?)=λm=>xs[i+m]?:=by
  funext m
  have:((i:Int)+(m:Int)*1).toNat=i+m:=by lia
  rw[this]
 rw[e]
 have:=pick_run xs i k
 rw[filterMap_map]at this
 have e2:((λx=>xs[x]?)∘λx=>i+x)=λm=>xs[i+m]?:=rfl
 rw[e2]at this
 rw[this]
theorem getItem_tuple_cut {t sl:Addr}{items:Array Value}{vl vu:Value}{lo hi:Option Int}{Q:Value->Shared->Prop}(ht:IsTup s.heap t items)(hs:s.heap.IsSliceOf sl vl vu .none)(pl:IsPart vl lo)(pu:IsPart vu hi)
  (hw:¬ (sIx items.size 0 lo=0/\sIx items.size items.size hi=items.size))
  (h:Q (.ref s.heap.objs.size) {s with heap:=s.heap.push {cls:=.type "tuple",data:=.seq ((items.toList.drop (sIx items.size 0 lo)).take (sIx items.size items.size hi-sIx items.size 0 lo)).toArray}})
  (hsz:items.size<=sizeLine):wpAny (model prog w) A (getItem (.ref t) (.ref sl)) Q E s:=by
 have htake:sizeOk (.seq ((items.toList.drop (sIx items.size 0 lo)).take (sIx items.size items.size hi-sIx items.size 0 lo)).toArray):=by
  show ((items.toList.drop (sIx items.size 0 lo)).take (sIx items.size items.size hi-sIx items.size 0 lo)).toArray.size<=sizeLine
  rw[size_toArray,length_take,length_drop,length_toList]
  lia
 obtain⟨os,hos,hcs,hds⟩:=id hs
 have hTs:s.TypeIs (.ref sl) "slice":=⟨os,hos,hcs⟩
 unfold getItem
 try with_reducible refine wpAny_holding ?_
 refine wpAny_bind (wpAny_sequenceKey ht.typeIs rfl ?_)
 refine wpAny_bind (wpAny_callSpecial?_slot (name:=Str.ofString "__getitem__") ht.typeIs PyProof.Rows.slot_tuple_getitem
  (wpAny_call_entry PyProof.Rows.slot_tuple_getitem ht.typeIs entry_tuple_getitem ?_ (args_tuple_getitem _ _)))
 show wpAny _ _ (Builtin.Tuple.tupleItemsOf (.ref t) >>= _) _ _ s
 refine wpAny_bind (tupleItemsOf_ ht ?_)
 refine wpAny_bind (wpAny_typeOf hTs ?_)
 refine wpAny_bind (sliceApplied_gen hs pl pu ?_)
 have hno:¬ ((((sIx items.size 0 lo:Nat):Int)==0 && (1:Int)==1 && (sIx items.size items.size hi-sIx items.size 0 lo)==items.size)=true):=by
  intro q
  rw[and_eq_true,and_eq_true]at q
  have q1:((sIx items.size 0 lo:Nat):Int)=0:=eq_of_beq q.1.1
  have q2:sIx items.size items.size hi-sIx items.size 0 lo=items.size:=eq_of_beq q.2
  exact hw ⟨by lia,by lia⟩
 show wpAny _ _ (if (((sIx items.size 0 lo:Nat):Int)==0 && (1:Int)==1 && (sIx items.size items.size hi-sIx items.size 0 lo)==items.size)=true then _ else _) _ _ s
 rw[if_neg hno,Ycz]
 first
  |exact wpAny_bind (m:=Builtin.Tuple.tupleExact _) (wpAny_newObj_type (wpAny_pure ⟨_,rfl,wpAny_pure h⟩) htake)
  |exact wpAny_bind (m:=Builtin.Tuple.tupleExact _) (wpAny_newObj_type (wpAny_bind (wpAny_pure (wpAny_pure ⟨_,rfl,wpAny_pure h⟩))) htake)
  |exact wpAny_bind (wpAny_bind (m:=Builtin.Tuple.tupleExact _) (wpAny_newObj_type (wpAny_pure (wpAny_pure ⟨_,rfl,wpAny_pure h⟩)) htake))
  |exact wpAny_bind (wpAny_bind (m:=Builtin.Tuple.tupleExact _) (wpAny_newObj_type (wpAny_pure ⟨_,rfl,wpAny_pure h⟩) htake))
end
end HT
namespace L2
open PySem PySem.Spec PyProof.Rows
abbrev TO:=St->Hp->(Option Int->Hp->Prop)->Prop
def PO (X:Cx)(e:Option Expr)(t:TO):Prop:=
 ∀(pins:List (Addr×Obj)) (s:Shared) (Y:St) (H:Hp) (Q:Option Int->Hp->Prop),Inv X pins Y H s->t Y H Q->
  wpAny (model X.prog X.w) X.A (evalPart e X.env) (λu s'=>∃o H',Inv X pins Y H' s'/\IsPart u o/\Q o H') X.xe s
def Xyb:TO:=λ_ H Q=>Q none H
def Yj4 (t:TE):TO:=λY H Q=>t Y H λx H1=>∃i,x = .int i/\Q (some i) H1
theorem Xxl:∀{us:List Value},Xbz (ns.map V.int) us->IntsAre us ns:=by
 induction ns with
 |nil=>intro us r;rw[map_nil]at r;cases r;exact .nil
 |cons n ns ih=>
  intro us r
  cases r with
  |cons r1 r2=>
   obtain⟨t,e⟩:=r1
   subst e
   exact .cons n t (ih r2)
section
variable {X:Cx}{e:Expr}{te:TE}{lo hi:Option Expr}{tl th:TO}{pos p2:Pos}
theorem Xhy:PO X none Xyb:=by
 intro pins s Y H Q I h
 exact wpAny_pure ⟨none,H,I,.none,h⟩
theorem Xdd (h:PE X e te):PO X (some e) (Yj4 te):=by
 intro pins s Y H Q I hw
 refine thn (h pins s Y H _ I hw) λu s1 ⟨x,H1,I1,r1,q1⟩=>?_
 obtain⟨i,rfl,q⟩:=q1
 obtain⟨t,rfl⟩:=r1
 exact⟨some i,H1,I1,.int i t,q⟩
def SlR (X:Cx)(r:V->Option Int->Option Int->Hp->VK->Prop):Prop:=
 ∀(pins:List (Addr×Obj)) (s:Shared) (Y:St) (H:Hp) (x:V) (v vl vu:Value) (lo hi:Option Int) (sl:Addr) (Q:VK),Inv X pins Y H s->Xdh x v->s.heap.IsSliceOf sl vl vu .none->IsPart vl lo->IsPart vu hi->r x lo hi H Q->
  ∃T id,typeLookup (.type T) "__getitem__"=pure (some (.builtin id))/\s.TypeIs v T/\wpAny (model X.prog X.w) X.A (getItem v (.ref sl)) (EP X pins Y Q) X.xe s
def tSl (r:V->Option Int->Option Int->Hp->VK->Prop)(te:TE)(tl th:TO):TE:=λY H Q=>te Y H λx H1=>tl Y H1 λl H2=>th Y H2 λu H3=>r x l u H3 Q
theorem Xdf {r:V->Option Int->Option Int->Hp->VK->Prop}(hr:SlR X r)(he:PE X e te)(hl:PO X lo tl)(hu:PO X hi th):PE X (.Subscript e (.Slice lo hi none p2) pos) (tSl r te tl th):=by
 intro pins s Y H Q I h
 refine Subscript_ (thn (he pins s Y H _ I h) λv s1 ⟨x,H1,I1,r1,q1⟩=>?_)
 refine wpAny_Slice (thn (hl pins s1 Y H1 _ I1 q1) λvl s2 ⟨l,H2,I2,pl,q2⟩=>thn (hu pins s2 Y H2 _ I2 q2) λvu s3 ⟨u,H3,I3,pu,q3⟩=>?_)
 refine wpAny_pure ?_
 have I4:Inv X pins Y H3 {s3 with heap:=s3.heap.push {cls:=.type "slice",data:=.fields #[vl,vu,.none]}}:=I3.kept (t':=s3.toks) λb ob q=>get?_push_of_some _ q
 obtain⟨T,id,hT,ht,hg⟩:=hr pins {s3 with heap:=s3.heap.push {cls:=.type "slice",data:=.fields #[vl,vu,.none]}} Y H3 x v vl vu l u s3.heap.objs.size Q I4 r1 (Heap.IsSliceOf.new ..) pl pu q3
 exact tail_any (ops:=[.ref s3.heap.objs.size,v]) ht hT hg (by with_unfolding_all rfl)
def Yb3 (xs:List V)(lo hi:Option Int):List V:=(xs.drop (HT.sIx xs.length 0 lo)).take (HT.sIx xs.length xs.length hi-HT.sIx xs.length 0 lo)
theorem Xny (xs:List V)(lo hi:Option Int):(Yb3 xs lo hi).length<=xs.length:=by
 unfold Yb3
 rw[length_take,length_drop]
 lia
def Ypv (K:Frag):V->Option Int->Option Int->Hp->VK->Prop:=λx lo hi H Q=>∃a xs,x = .ref a/\SqT K H a xs/\
 ¬ (HT.sIx xs.length 0 lo=0/\HT.sIx xs.length xs.length hi=xs.length)/\∀p,H p=none->Q (.ref p) (upd H p (.tup (Yb3 xs lo hi)))
theorem Ykd:SlR X (Ypv X.K):=by
 intro pins s Y H x v vl vu lo hi sl Q I rx hs pl pu h
 obtain⟨a,xs,rfl,hx,hw,q⟩:=h
 cases rx
 obtain⟨its,r,ht,hz⟩:=I.tuple hx
 have hlen:its.toArray.size=xs.length:=by rw[size_toArray];exact r.length.symm
 refine⟨"tuple",_,PyProof.Rows.slot_tuple_getitem.lookup,ht.typeIs,?_⟩
 refine HT.getItem_tuple_cut ht hs pl pu (by rw[hlen];exact hw) ?_ (by rw[hlen];exact hz)
 rw[hlen]
 refine⟨.ref s.heap.objs.size,_,I.laid (t':=s.toks) (o:=.tup (Yb3 xs lo hi)) (λb ob q=>get?_push_of_some _ q) (Nat.le_refl _) ?_,rfl,q _ (I.hok.fresh (Nat.le_refl _))⟩
 exact⟨le_trans (Xny xs lo hi) hz,_,(r.drop (HT.sIx xs.length 0 lo)).take (HT.sIx xs.length xs.length hi-HT.sIx xs.length 0 lo),IsTup.new _ _⟩
end
def ixN (n:Nat)(i:Int):Option Nat:=if 0<=i then (if i<n then some i.toNat else none) else if -(n:Int)<=i then some (i+n).toNat else none
def atI {α:Type}(xs:List α)(i:Int):Option α:=(ixN xs.length i).bind λj=>xs[j]?
theorem Yal (h:ixN n i=some j):seqIndex? i n=some j/\j<n/\-(n:Int)<=i/\i<n:=by
 unfold ixN at h
 by_cases h0:0<=i
 .rw [if_pos h0]at h
  by_cases h1:i<n
  .rw [if_pos h1]at h
   have e:i.toNat=j:=Option.some.inj h
   exact⟨by rw[seqIndex_of h0 h1,e],by lia,by lia,h1⟩
  .rw [if_neg h1]at h;cases h
 .rw [if_neg h0]at h
  by_cases h1 : -(n:Int)<=i
  .rw [if_pos h1]at h
   have e:(i+n).toNat=j:=Option.some.inj h
   exact⟨by rw[seqIndex_neg (by lia) h1,e],by lia,h1,by lia⟩
  .rw [if_neg h1]at h;cases h
theorem Xuu {α:Type}{xs:List α}{i:Int}{v:α}(h:atI xs i=some v):∃j,seqIndex? i xs.length=some j/\xs[j]?=some v/\j<xs.length/\-(xs.length:Int)<=i/\i<xs.length:=by
 unfold atI at h
 cases e:ixN xs.length i with
 |none=>rw[e]at h;cases h
 |some j=>
  rw[e]at h
  obtain⟨h1,h2,h3,h4⟩:=Yal e
  exact⟨j,h1,h,h2,h3,h4⟩
theorem Xc7 {α:Type}{xs:List α}{j:Nat}{v:α}(h:xs[j]?=some v):atI xs (j:Int)=some v:=by
 have hj:j<xs.length:=(List.getElem?_eq_some_iff.mp h).1
 have e:ixN xs.length (j:Int)=some j:=by
  unfold ixN
  rw[if_pos (by lia),if_pos (by lia)];simp
 unfold atI;rw[e];exact h
theorem Ydz {α:Type}(xs:List α)(v:α):atI (xs++[v]) (-1)=some v:=by
 have hl:(xs++[v]).length=xs.length+1:=by simp
 have e:ixN (xs++[v]).length (-1)=some xs.length:=by
  unfold ixN
  rw[ if_neg (by decide),if_pos (by lia)]
  congr 1
  lia
 unfold atI
 rw[e]
 simp
def Yb0 (b:Expr):Prop:=∀o i,subscripted b false o i=operate [o,i] (getItem o i)
def IxR (X:Cx)(r:R2):Prop:=
 ∀(value slice:Expr) (pins:List (Addr×Obj)) (s:Shared) (Y:St) (H:Hp) (x y:V) (v u:Value) (Q:VK),Inv X pins Y H s->Xdh x v->Xdh y u->r x y H Q->
  subscripted slice false v u=operate [v,u] (getItem v u)->wpAny (model X.prog X.w) X.A (subscriptTail value slice v u) (EP X pins Y Q) X.xe s
def MtR (X:Cx)(id:String)(r:V->List V->Hp->VK->Prop):Prop:=
 ∀(pins:List (Addr×Obj)) (s:Shared) (Y:St) (H:Hp) (x:V) (xs:List V) (v:Value) (us:List Value) (Q:VK),Inv X pins Y H s->Xdh x v->Xbz xs us->r x xs H Q->
  wpAny (model X.prog X.w) X.A (call (.builtin id) (v::us)) (EP X pins Y Q) X.xe s
section
variable {X:Cx}{a b:Expr}{ta tb:TE}{pos:Pos}
theorem Xba (hr:IxR X r)(ha:PE X a ta)(hb:PE X b tb)(hs:Yb0 b):PE X (.Subscript a b pos) (tOp r ta tb):=by
 intro pins s Y H Q I h
 exact Subscript_ (Yob ha hb I h λv u s2 x y H2 I2 rx ry q=>hr a b pins s2 Y H2 x y v u Q I2 rx ry q (hs _ _))
def Ym6 (K:Frag):R2:=λx y H Q=>∃p xs i v,x = .ref p/\y = .int i/\SqL K H p xs/\atI xs i=some v/\Q v H
def Yoz (K:Frag):R2:=λx y H Q=>∃p xs i v,x = .ref p/\y = .int i/\SqT K H p xs/\atI xs i=some v/\Q v H
def Yo0:R2:=λx y H Q=>∃z i c,x = .str z/\y = .int i/\z.length<=sizeLine/\atI z.cps.toList i=some c/\Q (.str ⟨#[c]⟩) H
theorem Xbk:IxR X (Ym6 X.K):=by
 intro value slice pins s Y H x y v u Q I rx ry h hs
 obtain⟨p,xs,i,z,rfl,rfl,hq,he,q⟩:=h
 cases rx
 obtain⟨t,rfl⟩:=ry
 obtain⟨its,r,pl,hz⟩:=I.list hq
 obtain⟨j,h1,h2,h3,h4,h5⟩:=Xuu he
 obtain⟨w,ew,rw'⟩:=r.get h2
 have hl:=r.length
 have hn:=Xnr
 have fin:EP X pins Y Q w s:=⟨z,H,I,rw',q⟩
 by_cases h0:0<=i
 .have hj:i.toNat=j:=by
   rw[seqIndex_of h0 h5]at h1
   exact Option.some.inj h1
  exact item_listR pl.isList h0 (by lia) (by rw[hj];simpa using ew) fin hs
 .have hj:(i+(its.toArray.size:Int)).toNat=j:=by
   rw[seqIndex_neg (by lia) h4]at h1
   rw[size_toArray,<- hl]
   exact Option.some.inj h1
  exact subscriptTail_builtinR pl.isList.typeIs slot_list_getitem.lookup
   (wpAny_getItem_list_neg (Q:=λr s'=>r=w/\EP X pins Y Q r s') pl.isList (by lia) (by rw[size_toArray]<;>lia) (by lia) (by rw[hj];simpa using ew) ⟨rfl,fin⟩) hs
theorem Xbh:IxR X (Yoz X.K):=by
 intro value slice pins s Y H x y v u Q I rx ry h hs
 obtain⟨p,xs,i,z,rfl,rfl,hq,he,q⟩:=h
 cases rx
 obtain⟨t,rfl⟩:=ry
 obtain⟨its,r,pl,hz⟩:=I.tuple hq
 obtain⟨j,h1,h2,h3,h4,h5⟩:=Xuu he
 obtain⟨w,ew,rw'⟩:=r.get h2
 have hl:=r.length
 have hn:=Xnr
 have fin:EP X pins Y Q w s:=⟨z,H,I,rw',q⟩
 exact subscriptTail_builtinR pl.typeIs slot_tuple_getitem.lookup
  (getItem_tuple (Q:=λr s'=>r=w/\EP X pins Y Q r s') pl (by lia) (by lia) (by rw[size_toArray,<- hl];exact h1) (by simpa using ew) ⟨rfl,fin⟩) hs
theorem Xs2:IxR X Yo0:=by
 intro value slice pins s Y H x y v u Q I rx ry h hs
 obtain⟨z,i,c,rfl,rfl,hz,he,q⟩:=h
 obtain⟨t,rfl⟩:=rx
 obtain⟨t',rfl⟩:=ry
 obtain⟨j,h1,h2,h3,h4,h5⟩:=Xuu he
 have hl:z.cps.toList.length=z.length:=by simp[Str.length]
 rw[hl]at h1 h4 h5
 have hn:=Xnr
 exact tail_any (typeIs_str s z t) slot_str_getitem.lookup (getItem_str (by
  have e1:decide (i < -(2^63:Int))=false:=decide_eq_false (by lia)
  have e2:decide (i>=2^63)=false:=decide_eq_false (by lia)
  rw[e1,e2,Bool.or_false]) (by rw[h1];simpa using h2) ⟨.str ⟨#[c]⟩,H,I.tok _,⟨_,rfl⟩,q⟩) hs
theorem Xxe (its:List Value)(n j:Nat)(u:Value):Obj.mapSeq (·.setIfInBounds j u) {cls:=.type "list",data:=.seq its.toArray n}={cls:=.type "list",data:=.seq (its.set j u).toArray n}:=by
 simp[Obj.mapSeq]
theorem Inv.lst {Y:St}{H:Hp}(I:Inv X pins Y H s)(h:H p=some (.lst xs)):
  ∃(its:List Value) (n:Nat),Xbz xs its/\s.heap.get? p=some {cls:=.type "list",data:=.seq its.toArray n}/\xs.length<=sizeLine:=by
 obtain⟨z,its,n,r,e⟩:=I.hok p _ h
 exact⟨its,n,r,e,z⟩
theorem Inv.lstUpd {pins:List (Addr×Obj)}{Y:St}{H:Hp}{s:Shared}{p:Addr}{xs ys:List V}{its its':List Value}{n n':Nat}{f:Obj->Obj}(I:Inv X pins Y H s)(h:H p=some (.lst xs))
  (ho:s.heap.get? p=some {cls:=.type "list",data:=.seq its.toArray n}) (hf:f {cls:=.type "list",data:=.seq its.toArray n}={cls:=.type "list",data:=.seq its'.toArray n'}) (r:Xbz ys its') (hz:ys.length<=sizeLine) (t:Nat):
  Inv X pins Y (upd H p (.lst ys)) {s with heap:=s.heap.update p f,toks:=t}:=by
 have e:(s.heap.update p f).get? p=some {cls:=.type "list",data:=.seq its'.toArray n'}:=by
  rw[get?_update_self f ho (by rw[hf]<;>rfl),hf]
 refine I.write (by rw[h];trivial) (.inl rfl) (λb u hb q=>(get?_update_other _ _ (Ne.symm hb)).trans q) ⟨_,e⟩ ?_
 exact⟨hz,its',n',r,e⟩
def Ycs:V->V->V->Hp->(Hp->Prop)->Prop:=λo i v H Q=>∃p xs k j,o = .ref p/\i = .int k/\H p=some (.lst xs)/\ixN xs.length k=some j/\Q (upd H p (.lst (xs.set j v)))
theorem Xec:Yoh X Ycs:=by
 intro pins s Y H o i v ov iv u Q I ro ri rv h
 obtain⟨p,xs,k,j,rfl,rfl,hp,hj,q⟩:=h
 cases ro
 obtain⟨t,rfl⟩:=ri
 obtain⟨its,n,r,ho,hz⟩:=I.lst hp
 obtain⟨h1,h2,h3,h4⟩:=Yal hj
 have hl:=r.length
 have hn:=Xnr
 have I':Inv X pins Y (upd H p (.lst (xs.set j v))) {s with heap:=s.heap.update p (Obj.mapSeq (·.setIfInBounds j u))}:=
  I.lstUpd hp ho (Xxe its n j u) (r.set rv j) (by rw[length_set];exact hz) s.toks
 by_cases h0:0<=k
 .have hk:k.toNat=j:=by
   rw[seqIndex_of h0 h4]at h1
   exact Option.some.inj h1
  exact PySem.W.ki_setAt ho h0 (by lia) (by rw[size_toArray,<- hl];exact h4) (by rw[hk];exact⟨_,I',q⟩)
 .have hk:(k+(its.toArray.size:Int)).toNat=j:=by
   rw[seqIndex_neg (by lia) h3]at h1
   rw[size_toArray,<- hl]
   exact Option.some.inj h1
  exact PySem.W.ki_setBack ho (by lia) (by rw[size_toArray,<- hl];exact h3) (by lia) (by rw[hk];exact⟨_,I',q⟩)
theorem Xri (lo hi:Option Int)(n:Nat):(sliceBounds lo hi none n).1=((HT.sIx n 0 lo:Nat):Int)/\(sliceBounds lo hi none n).2.1=((HT.sIx n n hi:Nat):Int)/\(sliceBounds lo hi none n).2.2=1:=by
 refine⟨?_,?_,rfl⟩
 .cases lo with
  |none=>simp[sliceBounds,HT.sIx]
  |some i=>
   simp only[sliceBounds,HT.sIx,getD_none,if_true]
   by_cases h:i<0
   .simp only[h,if_true]<;>lia
   .simp only[h,if_false]<;>lia
 .cases hi with
  |none=>simp[sliceBounds,HT.sIx]
  |some i=>
   simp only[sliceBounds,HT.sIx,getD_none,if_true]
   by_cases h:i<0
   .simp only[h,if_true]<;>lia
   .simp only[h,if_false]<;>lia
theorem Xp0 (its:List Value)(lo hi:Option Int):slicePick its.toArray lo hi none=((its.drop (HT.sIx its.length 0 lo)).take (HT.sIx its.length its.length hi-HT.sIx its.length 0 lo)).toArray:=by
 obtain⟨h1,h2,h3⟩:=Xri lo hi its.toArray.size
 unfold slicePick
 rw[h1,h2,h3]
 simp only[sliceRange_one,pick_run]<;>rfl
def Ypw (K:Frag):V->Option Int->Option Int->Hp->VK->Prop:=λx lo hi H Q=>∃a xs,x = .ref a/\SqL K H a xs/\∀p,H p=none->Q (.ref p) (upd H p (.lst (Yb3 xs lo hi)))
theorem Yge:SlR X (Ypw X.K):=by
 intro pins s Y H x v vl vu lo hi sl Q I rx hs pl pu h
 obtain⟨a,xs,rfl,hx,q⟩:=h
 cases rx
 obtain⟨its,r,ht,hz⟩:=I.list hx
 have hlen:=r.length
 refine⟨"list",_,slot_list_getitem.lookup,ht.isList.typeIs,?_⟩
 refine wpAny_getItem_list_slice ht.isList hs pl pu .none (by simp) ?_ (by rw[size_toArray]<;>lia)
 rw[Xp0,<- hlen]
 refine⟨.ref s.heap.objs.size,_,I.laid (t':=s.toks) (o:=.lst (Yb3 xs lo hi)) (λb ob q=>get?_push_of_some _ q) (Nat.le_refl _) ?_,rfl,q _ (I.hok.fresh (Nat.le_refl _))⟩
 exact⟨le_trans (Xny xs lo hi) hz,_,0,(r.drop (HT.sIx xs.length 0 lo)).take (HT.sIx xs.length xs.length hi-HT.sIx xs.length 0 lo),get?_push_size _ rfl⟩
def Ydu:V->Bool
 | .non=>true
 | .bl _=>true
 | .int _=>true
 | .str _=>true
 |_=>false
def eqV:V->V->Bool
 | .non,.non=>true
 | .bl a,.bl b=>a==b
 | .bl a,.int b=>(if a then 1 else 0)==b
 | .int a,.bl b=>a==(if b then 1 else 0)
 | .int a,.int b=>a==b
 | .str a,.str b=>a==b
 |_,_=>false
theorem Ymc {A:Around}(ry:Xdh y u)(rx:Xdh x v)(fy:Ydu y=true)(fx:Ydu x=true):SeqAt.EqAt A s u v (eqV y x):=by
 cases y with
 |non=>
  cases ry
  cases x with
  |non=>cases rx;exact SeqAt.EqAt.same _
  |bl b=>cases rx;exact SeqAt.EqAt.none_bool b
  |int b=>obtain⟨t,rfl⟩:=rx;exact SeqAt.EqAt.none_int b t
  |str b=>obtain⟨t,rfl⟩:=rx;exact SeqAt.EqAt.none_str b t
  |_=>exact absurd (show false=true from fx) Bool.false_ne_true
 |bl a=>
  cases ry
  cases x with
  |non=>cases rx;exact SeqAt.EqAt.bool_none a
  |bl b=>cases rx;exact SeqAt.EqAt.bool_bool a b
  |int b=>obtain⟨t,rfl⟩:=rx;exact SeqAt.EqAt.bool_int a b t
  |str b=>obtain⟨t,rfl⟩:=rx;exact SeqAt.EqAt.bool_str a b t
  |_=>exact absurd (show false=true from fx) Bool.false_ne_true
 |int a=>
  obtain⟨t',rfl⟩:=ry
  cases x with
  |non=>cases rx;exact SeqAt.EqAt.int_none a t'
  |bl b=>cases rx;exact SeqAt.EqAt.int_bool a t' b
  |int b=>obtain⟨t,rfl⟩:=rx;exact SeqAt.EqAt.int_int a t' b t
  |str b=>obtain⟨t,rfl⟩:=rx;exact SeqAt.EqAt.int_str a t' b t
  |_=>exact absurd (show false=true from fx) Bool.false_ne_true
 |str a=>
  obtain⟨t',rfl⟩:=ry
  cases x with
  |non=>cases rx;exact SeqAt.EqAt.str_none a t'
  |bl b=>cases rx;exact SeqAt.EqAt.str_bool a t' b
  |int b=>obtain⟨t,rfl⟩:=rx;exact SeqAt.EqAt.str_int a t' b t
  |str b=>obtain⟨t,rfl⟩:=rx;exact SeqAt.EqAt.str_str a t' b t
  |_=>exact absurd (show false=true from fx) Bool.false_ne_true
 |_=>exact absurd (show false=true from fy) Bool.false_ne_true
theorem Xax:Xhb X (.builtin "len") (λxs H Q=>∃p ys,xs=[.ref p]/\(SqL X.K H p ys∨SqT X.K H p ys)/\Q (.int ys.length) H):=by
 intro pins s Y H xs us Q I r h
 obtain⟨p,ys,rfl,hq,q⟩:=h
 obtain⟨u,rfl,rx⟩:=Xhg r
 cases rx
 have hn:=Xnr
 rcases hq with hq |hq
 .obtain ⟨its,r',pl,hz⟩:=I.list hq
  have hlen:=r'.length
  exact Calls.call_len_list pl.isList (by simp only[size_toArray]<;>lia) ⟨.int ys.length,H,I.tok _,⟨s.toks+1,by rw[size_toArray,hlen]⟩,q⟩
 .obtain ⟨its,r',pl,hz⟩:=I.tuple hq
  have hlen:=r'.length
  exact len_tuple pl (by simp only[size_toArray]<;>lia) ⟨.int ys.length,H,I.tok _,⟨s.toks+1,by rw[size_toArray,hlen]⟩,q⟩
theorem Xce:Xhb X (.builtin "len") (λxs H Q=>∃z,xs=[.str z]/\z.length<=sizeLine/\Q (.int z.length) H):=by
 intro pins s Y H xs us Q I r h
 obtain⟨z,rfl,hz,q⟩:=h
 obtain⟨u,rfl,t,rfl⟩:=Xhg r
 have hn:=Xnr
 exact len_str (by lia) ⟨.int z.length,H,I.tok _,⟨_,rfl⟩,q⟩
theorem Xtd:Xhb X (.type "list") (λxs H Q=>∃p ys,xs=[.ref p]/\(SqL X.K H p ys∨SqT X.K H p ys)/\∀l,H l=none->Q (.ref l) (upd H l (.lst ys))):=by
 intro pins s Y H xs us Q I r h
 obtain⟨p,ys,rfl,hq,q⟩:=h
 obtain⟨u,rfl,rx⟩:=Xhg r
 cases rx
 have fin:∀(its:List Value),Xbz ys its->ys.length<=sizeLine->∀(h':Heap) (c':Nat),(∀b o',s.heap.get? b=some o'->h'.get? b=some o')->
   h'.get? s.heap.objs.size=some {cls:=.type "list",dict:=none,data:=.seq its.toArray c',slots:=#[]}->EP X pins Y Q (.ref s.heap.objs.size) {s with heap:=h'}:=λits r' hz h' c' kp e=>
  ⟨.ref s.heap.objs.size,_,I.laid (t':=s.toks) kp (Nat.le_refl _) (show Xe7 X.prog X.w _ h' _ (.lst ys) from⟨hz,its,c',r',e⟩),rfl,q _ (I.hok.fresh (Nat.le_refl _))⟩
 rcases hq with hq |hq
 .obtain ⟨its,r',pl,hz⟩:=I.list hq
  have hlen:=r'.length
  obtain⟨o,ho,hc,n,hd⟩:=pl.isList
  exact call_list_seq p (.inl rfl) ho hc hd (λh' c' kp e=>fin its r' hz h' c' kp e) (by simp only[size_toArray]<;>lia)
 .obtain ⟨its,r',pl,hz⟩:=I.tuple hq
  have hlen:=r'.length
  obtain⟨o,ho,hc,n,hd⟩:=pl
  exact call_list_seq p (.inr rfl) ho hc hd (λh' c' kp e=>fin its r' hz h' c' kp e) (by simp only[size_toArray]<;>lia)
theorem Xq2:Xhb X (.type "tuple") (λxs H Q=>∃p ys,xs=[.ref p]/\((SqL X.K H p ys/\∀l,H l=none->Q (.ref l) (upd H l (.tup ys)))∨(SqT X.K H p ys/\Q (.ref p) H))):=by
 intro pins s Y H xs us Q I r h
 obtain⟨p,ys,rfl,h⟩:=h
 obtain⟨u,rfl,rx⟩:=Xhg r
 cases rx
 rcases h with⟨hq,q⟩ | ⟨hq,q⟩
 .obtain ⟨its,r',pl,hz⟩:=I.list hq
  have hlen:=r'.length
  refine call_tuple_list pl.isList (λh' kp=>?_) (by simp only[size_toArray]<;>lia)
  have I1:Inv X pins Y H {s with heap:=h'}:=I.kept (t':=s.toks) kp
  have I2:Inv X pins Y (upd H h'.objs.size (.tup ys)) {s with heap:=h'.push {cls:=.type "tuple",data:=.seq its.toArray}}:=
   I1.laid (t':=s.toks) (λb o e=>get?_push_of_some _ e) (Nat.le_refl _) (show Xe7 X.prog X.w _ _ _ (.tup ys) from⟨hz,its,r',IsTup.new _ _⟩)
  exact⟨.ref h'.objs.size,_,I2,rfl,q _ (I1.hok.fresh (Nat.le_refl _))⟩
 .obtain ⟨its,r',pl,hz⟩:=I.tuple hq
  exact call_tuple_same pl ⟨.ref p,H,I,rfl,q⟩
def tyV (K:Frag)(T:String)(x:V)(H:Hp):Prop:=match x with
 | .str _=>T = "str"
 | .int _=>T = "int"
 | .ref p=>(T = "list"/\∃xs,SqL K H p xs)∨(T = "tuple"/\∃o,K.lookup p=some o/\o.cls = .type "tuple"/\o.dict=none)∨
   (T = "dict"/\((∃kvs,H p=some (.dK kvs))∨∃kvs,H p=some (.dT kvs)))∨(T = "set"/\∃S n,H p=some (.set S n))
 |_=>False
theorem Yd6 {Y:St}{H:Hp}(I:Inv X pins Y H s)(r:Xdh x v)(ty:tyV X.K T x H):
  s.TypeIs v T/\∀a,v = .ref a->∃ob,s.heap.get? a=some ob/\ob.dict=none:=by
 cases x with
 |str z=>
  obtain⟨t,rfl⟩:=r
  cases (show T = "str" from ty)
  exact⟨typeIs_str s z t,λ_ e=>nomatch e⟩
 |int i=>
  obtain⟨t,rfl⟩:=r
  cases (show T = "int" from ty)
  exact⟨typeIs_int s i t,λ_ e=>nomatch e⟩
 |ref p =>
  cases r
  rcases ty with⟨rfl,xs,hq⟩ | ⟨rfl,o,hk,hc,hd⟩ | ⟨rfl,hk⟩ | ⟨rfl,S,n,hk⟩
  .obtain ⟨its,_,pl,_⟩:=I.list hq
   refine⟨pl.isList.typeIs,λa e=>?_⟩
   cases e
   obtain⟨o,n,e,c,hd,_⟩:=pl
   exact⟨o,e,hd⟩
  .refine ⟨⟨o,I.kIn p o hk,hc⟩,λa e=>?_⟩
   cases e
   exact⟨o,I.kIn _ o hk,hd⟩
  .have z:∃o,s.heap.get? p=some o/\o.ExactDict:=by
    rcases hk with⟨kvs,hk⟩ | ⟨kvs,hk⟩
    .obtain ⟨_,_,_,_,o,_,_,e,ex,_⟩:=I.hok p _ hk
     exact⟨o,e,ex⟩
    .obtain ⟨_,_,_,_,o,_,_,e,ex,_⟩:=I.hok p _ hk
     exact⟨o,e,ex⟩
   obtain⟨o,e,ex⟩:=z
   refine⟨⟨o,e,ex.1⟩,λa e2=>?_⟩
   cases e2
   exact⟨o,e,ex.2.1⟩
  .obtain ⟨o,_,_,_,e,ex,_⟩:=I.hok p _ hk
   refine⟨⟨o,e,ex.1⟩,λa e2=>?_⟩
   cases e2
   exact⟨o,e,ex.2.1⟩
 |_=>exact False.elim ty
def Ym3 (K:Frag)(T:String)(r:V->List V->Hp->VK->Prop)(to:TE):TE:=λY H Q=>to Y H λx H1=>tyV K T x H1/\r x [] H1 Q
def tBM (K:Frag)(T:String)(r:V->List V->Hp->VK->Prop)(to:TE)(t:TA):TE:=λY H Q=>to Y H λx H1=>tyV K T x H1/\t Y H1 λxs H2=>r x xs H2 Q
variable {o e:Expr}{es:List Expr}{to:TE}{t:TA}{name:Str}{apos cpos:Pos}{T id:String}{r:V->List V->Hp->VK->Prop}
theorem Xzo (pa:PlainAttrs T)(slot:Slot T name id)(hty:typeOf (.builtin id)=pure (.type "method_descriptor"))(hm:MtR X id r)(ho:PE X o to)
  (hbase:attributeBase o name X.env (eval o X.env)=eval o X.env:=by rfl) (hline:(apos.endLine==cpos.line)=true:=by rfl):PE X (.Call (.Attribute o name apos) [] [] cpos) (Ym3 X.K T r to):=by
 intro pins s Y H Q I h
 refine wpAny_Call_method0_late hbase hline (thn (ho pins s Y H _ I h) λv s1 ⟨x,H1,I1,r1,ty,q1⟩=>?_)
 obtain⟨h1,h2⟩:=Yd6 I1 r1 ty
 exact⟨T,id,pa,slot,hty,h1,h2,Calls.callWith_builtin rfl (PySem.evalArgs_none (hm pins s1 Y H1 x [] v [] Q I1 r1 .nil q1))⟩
theorem Xdb (pa:PlainAttrs T)(slot:Slot T name id)(hty:typeOf (.builtin id)=pure (.type "method_descriptor"))(hm:MtR X id r)(ho:PE X o to)(ha:PA X (e::es) t)
  (hbase:attributeBase o name X.env (eval o X.env)=eval o X.env:=by rfl)
  (hfew:((backTo cpos (starEach (e::es) X.env)).all (λx => !x.1) && (backToKw cpos (keywordEach [] X.env)).all (λx=>x.1.isSome)
   && decide ((e::es).length+([]:List Keyword).length+(if ([]:List Keyword).isEmpty then 0 else 1)<30))=true:=by rfl)
  (hline:(apos.endLine==cpos.line)=true:=by rfl) (hs:starEach (e::es) X.env=(false,eval e X.env)::starEach es X.env:=by rfl) (hplain:(backTo cpos (starEach es X.env)).any (·.1)=false:=by rfl):
  PE X (.Call (.Attribute o name apos) (e::es) [] cpos) (tBM X.K T r to t):=by
 intro pins s Y H Q I h
 refine wpAny_Call_method_late hbase hfew hline rfl (thn (ho pins s Y H _ I h) λv s1 ⟨x,H1,I1,r1,ty,q1⟩=>?_)
 obtain⟨h1,h2⟩:=Yd6 I1 r1 ty
 refine⟨T,id,pa,slot,hty,h1,h2,?_⟩
 have hA:=ha cpos pins s1 Y H1 _ I1 q1
 rw[hs]at hA ⊢
 refine Calls.callWith_builtin (by show (false || (backTo cpos (starEach es X.env)).any (·.1))=false;rw[hplain]<;>rfl) (Calls.evalArgs_plain ?_)
 exact thn hA λus s2 ⟨vs,H2,I2,r2,q2⟩=>hm pins s2 Y H2 x vs v us Q I2 r1 r2 q2
end
def MtM (X:Cx)(id:String)(r:V->List V->Hp->VK->Prop):Prop:=
 ∀(pins:List (Addr×Obj)) (s:Shared) (Y:St) (H:Hp) (x:V) (xs:List V) (v:Value) (us:List Value) (Q:VK),Inv X pins Y H s->Xdh x v->Xbz xs us->r x xs H Q->
  wpAny (model X.prog X.w) X.A (call (.builtin id) (v::us)) (EP X pins Y Q) X.xe s
theorem Xbz.one:∀{x:V} {us:List Value},Xbz [x] us->∃u,us=[u]/\Xdh x u
 |_,_,.cons r .nil=>⟨_,rfl,r⟩
theorem Xbz.zero:∀{us:List Value},Xbz [] us->us=[]
 |_,.nil=>rfl
theorem Xbz.dropLast (h:Xbz xs us):Xbz xs.dropLast us.dropLast:=by
 induction h with
 |nil=>exact .nil
 |cons r t ih=>
  cases t with
  |nil=>exact .nil
  |cons q t'=>exact .cons r ih
theorem Xbz.eraseIdx:∀{xs:List V} {us:List Value} (i:Nat),Xbz xs us->Xbz (xs.eraseIdx i) (us.eraseIdx i)
 |_,_,_,.nil=>.nil
 |_,_,0,.cons _ t=>t
 |_,_,i+1,.cons r t=>.cons r (Xbz.eraseIdx i t)
theorem Xbz.reverse {xs:List V}{us:List Value}(h:Xbz xs us):Xbz xs.reverse us.reverse:=by
 induction h with
 |nil=>exact .nil
 |cons r t ih=>rw[reverse_cons,reverse_cons];exact Xbz.append ih (.cons r .nil)
theorem Xbz.rep (h:Xbz xs us):∀k:Nat,Xbz (List.replicate k xs).flatten (List.replicate k us).flatten
 | 0=>.nil
 |k+1=>by
  exact Xbz.append h (Xbz.rep h k)
theorem Xxr {α:Type}(l:List α):l.eraseIdx (l.length-1)=l.dropLast:=by
 induction l with
 |nil=>rfl
 |cons a r ih=>
  cases r with
  |nil=>rfl
  |cons b r=>
   have e:(a::b::r).length-1=((b::r).length-1)+1:=by
    have h1:(a::b::r).length=r.length+2:=rfl
    have h2:(b::r).length=r.length+1:=rfl
    lia
   rw[e,List.eraseIdx_cons_succ,ih]
   all_goals rfl
theorem Xsz {α:Type}:∀(l:List α) (i:Nat),(l.eraseIdx i).length<=l.length
 | [],_=>Nat.le_refl _
 |_::_,0=>le_succ _
 |_::r,i+1=>Nat.succ_le_succ (Xsz r i)
theorem Xs8 (its:List Value):∀(k:Nat) (acc:List Value),
  List.foldl (λx1 x2=>x1++x2) acc.toArray (List.replicate k its.toArray)=(acc++(List.replicate k its).flatten).toArray
 | 0,acc=>by simp
 |k + 1,acc=>by
  have e:acc.toArray++its.toArray=(acc++its).toArray:=by simp
  have e2:(acc++its)++(List.replicate k its).flatten=acc++(List.replicate (k+1) its).flatten:=by
   rw[replicate_succ,List.flatten_cons,append_assoc]
  rw[<- e2,<- Xs8 its k (acc++its),<- e,replicate_succ,foldl_cons]
section
variable {X:Cx}{pins:List (Addr×Obj)}{Y:St}{H:Hp}{s:Shared}{l b:Addr}{xs ys zs:List V}
theorem Inv.lset {its its':List Value}{n:Nat}{f:Array Value->Array Value}{t':Nat}(I:Inv X pins Y H s)(hH:H l=some (.lst xs))
  (e:s.heap.get? l=some {cls:=.type "list",data:=.seq its.toArray n}) (hf:f its.toArray=its'.toArray) (hv:Xbz ys its') (hz:ys.length<=sizeLine):
  Inv X pins Y (upd H l (.lst ys)) {s with heap:=s.heap.update l (Obj.mapSeq f),toks:=t'}:=by
 have q:=PySem.IsL.update e f
 rw[hf]at q
 refine I.write (by rw[hH];exact trivial) (.inl rfl) (λb' u hb hu=>(get?_update_other s.heap (Obj.mapSeq f) (Ne.symm hb)).trans hu) ⟨_,q⟩ ?_
 exact⟨hz,its',_,hv,q⟩
theorem Inv.lnew (I:Inv X pins Y H s)(hv:Xbz ys its)(hz:ys.length<=sizeLine):
  Inv X pins Y (upd H s.heap.objs.size (.lst ys)) {s with heap:=s.heap.push {cls:=.type "list",data:=.seq its.toArray},toks:=t'}:=
 I.laid (λ_ _ q=>get?_push_of_some _ q) (Nat.le_refl _) ⟨hz,its,0,hv,get?_push_size _ rfl⟩
theorem Inv.fresh (I:Inv X pins Y H s):H s.heap.objs.size=none:=I.hok.fresh (Nat.le_refl _)
theorem Inv.lstM (I:Inv X pins Y H s)(hH:H l=some (.lst xs)):xs.length<=sizeLine/\∃(its:List Value) (n:Nat),Xbz xs its/\xs.length=its.length/\s.heap.get? l=some {cls:=.type "list",data:=.seq its.toArray n}:=by
 obtain⟨z,its,n,r,e⟩:=I.hok l _ hH
 exact⟨z,its,n,r,r.length,e⟩
theorem Xvp (h:n<=sizeLine):Builtin.List.listTooLong n=false:=by
 exact decide_eq_false (by lia)
end
section
variable {X:Cx}
def rAppend:V->List V->Hp->VK->Prop:=λx vs H Q=>∃l xs y,x = .ref l/\vs=[y]/\H l=some (.lst xs)/\xs.length<sizeLine/\Q .non (upd H l (.lst (xs++[y])))
theorem Xcb:MtM X "list.append" rAppend:=by
 intro pins s Y H x vs v us Q I rx rv h
 obtain⟨l,xs,y,rfl,rfl,hH,hz,q⟩:=h
 cases rx
 obtain⟨u,rfl,ru⟩:=rv.one
 obtain⟨z,its,n,r,hl,e⟩:=I.lstM hH
 refine call_meets F.slot_list_append ⟨_,e,rfl⟩ F.entry_list_append (F.args_list_append_2 _ _) (PySem.list_append l its.toArray n u (by rw[size_toArray];lia)) ⟨e,?_⟩
 refine⟨.non,_,I.lset (its':=its++[u]) hH e (by simp) (r.append (.cons ru .nil)) ?_,rfl,q⟩
 rw[length_append,length_singleton]
 lia
def rPop:V->List V->Hp->VK->Prop:=λx vs H Q=>∃l xs y,x = .ref l/\vs=[]/\H l=some (.lst xs)/\xs[xs.length-1]?=some y/\Q y (upd H l (.lst xs.dropLast))
theorem Ye1:MtM X "list.pop" rPop:=by
 intro pins s Y H x vs v us Q I rx rv h
 obtain⟨l,xs,y,rfl,rfl,hH,hy,q⟩:=h
 cases rx
 have hus:=rv.zero
 subst hus
 obtain⟨z,its,n,r,hl,e⟩:=I.lstM hH
 obtain⟨u,hu,ru⟩:=r.get hy
 have hy':its.toArray[its.toArray.size-1]?=some u:=by
  show its.toArray[its.length-1]?=some u
  rw[<- Array.getElem?_toList,<- hl]
  exact hu
 refine call_meets F.slot_list_pop ⟨_,e,rfl⟩ F.entry_list_pop (F.args_list_pop_1 _) (MeetsSeq.list_pop_last l its.toArray n u hy' (by rw[size_toArray];lia)) ⟨e,?_⟩
 refine⟨y,_,I.lset (its':=its.dropLast) hH e ?_ r.dropLast ?_,ru,q⟩
 .rw [size_toArray,List.eraseIdxIfInBounds_toArray,Xxr]
 .rw [List.length_dropLast]
  lia
def rPopAt:V->List V->Hp->VK->Prop:=λx vs H Q=>∃l xs i k y,x = .ref l/\vs=[.int i]/\H l=some (.lst xs)/\-(2^63)<=i/\i<2^63/\seqIndex? i xs.length=some k/\xs[k]?=some y/\Q y (upd H l (.lst (xs.eraseIdx k)))
theorem Ydf:MtM X "list.pop" rPopAt:=by
 intro pins s Y H x vs v us Q I rx rv h
 obtain⟨l,xs,i,k,y,rfl,rfl,hH,h1,h2,hk,hy,q⟩:=h
 cases rx
 obtain⟨u,rfl,ru⟩:=rv.one
 obtain⟨t,rfl⟩:=ru
 obtain⟨z,its,n,r,hl,e⟩:=I.lstM hH
 obtain⟨w,hw,rw'⟩:=r.get hy
 refine call_meets F.slot_list_pop ⟨_,e,rfl⟩ F.entry_list_pop (F.args_list_pop_2 _ _)
  (MeetsSeq.list_pop_at l its.toArray n i t k w (fitsIndex_both h1 h2) (by rw[size_toArray,<- hl];exact hk) (by rw[<- Array.getElem?_toList];exact hw) (by rw[size_toArray];lia)) ⟨e,?_⟩
 refine⟨y,_,I.lset (its':=its.eraseIdx k) hH e ?_ (r.eraseIdx k) ?_,rw',q⟩
 .rw [List.eraseIdxIfInBounds_toArray]
 .have:=Xsz xs k
  lia
def Yox:R2:=λx y H Q=>∃l k xs,x = .ref l/\y = .int k/\H l=some (.lst xs)/\-(2^63)<=k/\k<2^63/\xs.length*k.toNat<=sizeLine/\
 ∀p,H p=none->Q (.ref p) (upd H p (.lst (List.replicate k.toNat xs).flatten))
theorem Yih {α:Type}(xs:List α)(k:Nat):(List.replicate k xs).flatten.length=k*xs.length:=by
 induction k with
 |zero=>simp
 |succ k ih=>rw[replicate_succ,List.flatten_cons,length_append,ih,succ_mul,Nat.add_comm]
theorem Xzt:OpR X (binaryOp .Mult) Yox:=by
 intro pins s Y H x y v u Q I rx ry h
 obtain⟨l,k,xs,rfl,rfl,hH,h1,h2,hz,q⟩:=h
 cases rx
 obtain⟨t,rfl⟩:=ry
 obtain⟨z,its,n,r,hl,e⟩:=I.lstM hH
 have hlen:its.toArray.size*k.toNat<=sizeLine:=by rw[size_toArray,<- hl];exact hz
 have hcap:¬ its.toArray.size*k.toNat > (2^63-1) / 8:=by
  have:(sizeLine:Nat)<=(2^63-1) / 8:=by decide
  lia
 have hfit:¬ (!Builtin.List.listFitsIndex k)=true:=by
  rw[fitsIndex_both h1 h2]
  exact Bool.false_ne_true
 have hlong:¬ Builtin.List.listTooLong (its.toArray.size*k.toNat)=true:=by
  rw[Xvp hlen]
  exact Bool.false_ne_true
 have hnew:List.foldl (λx1 x2=>x1++x2) #[] (List.replicate (if its.toArray.isEmpty=true then 0 else k.toNat) its.toArray)=(List.replicate k.toNat its).flatten.toArray:=by
  have f0:∀m:Nat,List.foldl (λx1 x2=>x1++x2) #[] (List.replicate m its.toArray)=(List.replicate m its).flatten.toArray:=λm=>by
   have:=Xs8 its m []
   exact this
  rw[f0]
  cases its with
  |nil=>simp
  |cons a r'=>rw[if_neg (by simp)]
 refine wpAny_binaryOp_repeat_ref (T := "list") (U := "int") rfl ⟨_,e,rfl⟩ (λs'=>typeIs_int s' k t) noFill_list_mul F.fills_int_mul F.slot_int_rmul repeat_list F.slot_int_index.lookup
  (call_meets F.slot_int_rmul (typeIs_int s k t) F.entry_int_rmul (F.args_int_rmul_2 _ _) (int___rmul___int_list k t l its.toArray n)
   ⟨e,rfl,⟨_,e,rfl⟩,call_meets F.slot_list_mul ⟨_,e,rfl⟩ F.entry_list_mul (F.args_list_mul_2 _ _) (AutoListH.list___mul___list_int_3 l its.toArray n k t hfit hcap hlong) ⟨e,?_⟩⟩)
 rw[hnew]
 exact⟨.ref _,_,I.lnew (t':=s.toks) (r.rep k.toNat) (by rw[Yih,Nat.mul_comm];exact hz),rfl,q _ I.fresh⟩
end
section
variable {prog:Program}{w:World}{A:Around}{E:Value->Shared->Prop}{s:Shared}
set_option maxRecDepth 100000 in
end
section
variable {X:Cx}
end
end L2
namespace Att
open PySem PySem.W PySem.Calls PyProof.Rows
theorem Xnv {P:Params}{h:Heap}:∀(ns:List Int) (vs:List Value),WellAll P h vs (ns.map WData.int)->IntsAre vs ns:=by
 intro ns
 induction ns with
 |nil=>
  intro vs w
  cases w
  exact .nil
 |cons n ns ih=>
  intro vs w
  cases w with
  |cons a b=>
   cases a
   exact .cons _ _ (ih _ b)
theorem Xrk {l:OpenLaw}{n:Nat}(hn:l.most=some n){P:Params}{h:Heap}{args:List WData}{vals:List Value}
  (hpre:l.row.toRowW.claim.pre args=true) (hwl:WellAll P h vals args):
  ∃a vs ns,vals=[Value.ref a]/\args=[WData.list (ns.map WData.int)]/\h.get? a=some {cls:=.type "list",data:=.seq vs.toArray}/\IntsAre vs ns/\ns.length<=n:=by
 have hsh:WShape.hasAll [] args [.list .int]=true:=(pre_splitW hpre).1
 have hc:l.pre.holds [] {args:=args}=true:=(pre_splitW hpre).2
 obtain⟨d,r,rfl,h1,h2⟩:=hasAllW_cons hsh
 obtain rfl:=hasAllW_nil h2
 obtain⟨xs,rfl,h3⟩:=hasW_list h1
 obtain⟨ns,rfl⟩:=items_int h3
 have hlen:ns.length<=n:=by
  have h4:(WTm.not (.lt (.lit (.int (n:Int))) (.len (.arg 0)))).holds [] {args:=[.list (ns.map .int)]}=true:=by
   have h4:=(holds_andW hc).1
   rw[hn]at h4
   exact h4
  have h5:=condW_of h4 (w_not (w_lt w_lit (w_len_list (w_arg rfl))))
  refine Nat.le_of_not_lt λq=>?_
  first
   | (rw[decide_eq_true q']at h5;exact absurd h5 rfl)
   | (simp at h5;lia)
 cases hwl with
 |cons w1 w2=>
  cases w2
  cases w1 with
  |list ho hall=>exact⟨_,_,ns,rfl,rfl,ho,Xnv ns _ hall,hlen⟩
theorem Xr5 (l:OpenLaw)(args:List WData):l.row.toRowW.claim.post args (.bool true) args=true:=
 postW_of (X:=(true==true))
  (show WShape.has [] (.bool true) .bool=true by first |rfl |decide |simp[ WShape.armsAll])
  (show (WTm.eq .res (.lit (.bool true))).value [] {args:=args,res:=some (.bool true),after:=args}=some (.bool (true==true)) from w_eq_bool (w_res rfl) w_lit) rfl
theorem attach_call {l:OpenLaw}{n:Nat}{q:Program}{loose:List Str}{XP:(Str->Option Value)->Heap->Prop}{YP:World->Heap->Prop}{d:DefRec}
  (hn:l.most=some n) (hdf:d.params.defaults=[])
  (call:∀(w:World) (s₀ s₁:Shared) (mg mb:Str->Option Value) (fa:Addr) (o:Obj) (pm cd doc:Value) (a:Addr) (vs:List Value) (ns:List Int),
   Ground q loose [] XP w s₀ mg mb s₁.heap->YP w s₁.heap->
   s₁.heap.get? fa=some o->o.data = .func (docDef d.name d.params d.body d.scope pm cd doc)->s₁.heap.CodeRec cd d.name->mg d.name=some (.ref fa)->
   s₁.heap.get? a=some {cls:=.type "list",data:=.seq vs.toArray}->IntsAre vs ns->ns.length<=n->s₁.gens=#[]->
   codeAny (model l.prog w) callerA (.call (.ref fa) ⟨[.ref a],[]⟩) (λr s'=>r = .ok (.ret (.bool true))/\OldK s₁.heap s'.heap/\s'.os=s₁.os/\AllBare s'.gens) s₁):
  WalkO q loose XP YP l.row.toRowW d [] (λf vs=>PySem.call f vs):=by
 intro w s₀ s₁ mg mb G σ fa o pm cd doc dV kV ho hd hcd hD hmg hg args vals as hpre hlay hrd hwl hlo
 obtain rfl:dV = .none:=Dflts.none hD hdf
 obtain rfl:kV = .none:=Dflts.noKw hD
 obtain⟨a,vs,ns,rfl,rfl,hobj,hints,hlen⟩:=Xrk hn hpre hwl
 refine enter_call (codeAny_mono (call w s₀ s₁ mg mb fa o pm cd doc a vs ns G σ ho (fd_plain hd) hcd hmg hobj hints hlen hg) λr s' hq=>?_)
 obtain⟨rfl,h2,h3,h4⟩:=hq
 exact⟨.inl ⟨.bool true,.bool true,[],rfl,λ_=>rfl,.bool true,Xr5 l _,λ_=>⟨List.Pairwise.nil,λ_ hm=>(nomatch hm)⟩⟩,h2,h3,h4⟩
section
variable {prog:Program}{w:World}{A:Around}{E:Value->Shared->Prop}{s:Shared}{K:Frag}
end
end Att
namespace L2
open PySem PySem.Spec PyProof.Rows
theorem Xra:∀{vs:List Value} {ns:List Int},IntsAre vs ns->Xbz (ns.map V.int) vs
 |_,_,.nil=>.nil
 |_,_,.cons n t h=>.cons ⟨t,rfl⟩ (Xra h)
def Yoi (H:Hp):Prop:=∀b,H b=none∨∃o xs,H b=some (.frz o (.lst xs))
theorem Xvv {P:Program}{w:World}{K:Frag}{mg mb:Str->Option Value}{CX:CXT}{k:Nat}{fa a:Addr}{fd:FuncData}{x:Str}{sp:Sp}{s₁:Shared}{vs:List Value}{ns:List Int}
  (KX:K.In s₁.heap) (hns:s₁.heap.Ns mainGlobals mg) (hb:s₁.heap.Ns builtinsNs mb) (hbb:∀x:Str,x ≠ "__name__"->mb x=bootBuiltins x) (hlim:s₁.heap.NoLimit) (hg:s₁.gens=#[])
  (ha:s₁.heap.get? a=some {cls:=.type "list",data:=.seq vs.toArray}) (hi:IntsAre vs ns) (hl:ns.length<=sizeLine) (hr:Room k callerA)
  (F:∀base:Heap,K.In base->base.Ns mainGlobals mg->FnOk P w K mg base CX k fa fd [x] sp) (hbind:∀(s:Shared) (u:Value),BindsTo s fd ⟨[u],[]⟩ [(x,u)])
  (hsp:∀H:Hp,Yoi H->SqL K H a (ns.map V.int)->sp [.ref a] H (λv _=>v = .bl true) λ_ _ _=>False)
  (hCX:∀H e s',CX [] H s₁ (λ_ _ _=>False) e s'->False):
  codeAny (model P w) callerA (.call (.ref fa) ⟨[.ref a],[]⟩) (λr s'=>r = .ok (.ret (.bool true))/\OldK s₁.heap s'.heap/\s'.os=s₁.os/\AllBare s'.gens) s₁:=by
 have rv:=Xra hi
 have lenV:=hi.length
 have core : ∀H:Hp,Yoi H->SqL K H a (ns.map V.int)->HOk P w H s₁.heap->(∀b,H b≠none->b=a)->(H a≠none->K.lookup a=none)->
   codeAny (model P w) callerA (.call (.ref fa) ⟨[.ref a],[]⟩) (λr s'=>r = .ok (.ret (.bool true))/\OldK s₁.heap s'.heap/\s'.os=s₁.os/\AllBare s'.gens) s₁:=by
  intro H hO hS hok hA hK
  have base_of:∀{b:Addr} {o:Obj},s₁.heap.get? b=some o->H b=none->(Ydr s₁.heap H).get? b=some o:=λe n=>Ydq e n
  have noA:∀{b:Addr} {o:Obj} {es:Array DictEntry} {ep:Nat},s₁.heap.get? b=some o->o.data = .dict es ep->H b=none:=λ{b o es ep} e d=>by
   cases q:H b with
   |none=>rfl
   |some u=>
    have e':b=a:=hA b (by rw[q];simp)
    subst e'
    rw[ha]at e;cases e
    have d':Data.seq vs.toArray _=Data.dict es ep:=d
    cases d'
  have nsK:∀{b:Addr} {m:Str->Option Value},s₁.heap.Ns b m->(Ydr s₁.heap H).Ns b m:=λ{b m} ⟨o,es,ep,e,d,r⟩=>⟨o,es,ep,base_of e (noA e d),d,r⟩
  have hKb:K.In (Ydr s₁.heap H):=λb o e=>base_of (KX b o e) (by
   cases q:H b with
   |none=>rfl
   |some u=>
    have e':b=a:=hA b (by rw[q];simp)
    subst e'
    rw[hK (by rw[q];simp)]at e;cases e)
  have hM:Mod K mg (Ydr s₁.heap H):=⟨hKb,nsK hns,⟨mb,nsK hb,hbb⟩,let⟨mc,h1,h2⟩:=hlim;⟨mc,nsK h1,h2⟩⟩
  have e0:Env0 P w K mg (Ydr s₁.heap H) callerA [] s₁ H:=⟨rfl,hM,λb o e=>Yh0 e,Nat.le_of_eq (Yao _ _),trivial,λb hb=>absurd (show b∈([]:List Addr) from hb) (by simp),hok,.of_eq hg⟩
  refine codeAny_mono ((F _ hKb (nsK hns)).run callerA [] s₁ H ⟨[.ref a],[]⟩ [.ref a] [.ref a] _ _ hr e0 (hbind s₁ (.ref a)) (.cons rfl .nil) (hsp H hO hS)) λr s' h=>?_
  cases r with
  |error e=>exact (hCX H e s' h).elim
  |ok fl =>
   cases fl with
   |next=>exact False.elim h
   |brk=>exact False.elim h
   |cont=>exact False.elim h
   |ret u=>
    obtain⟨v,H',os,bare,un,hok',r',q⟩:=h
    have q':v = .bl true:=q
    subst q'
    obtain rfl:u=Value.bool true:=r'
    refine⟨rfl,OldK.of_keep λb o e=>?_,os,bare⟩
    cases q:H b with
    |none=>exact un.keep b o e q (by intro z;exact absurd (show b∈([]:List Addr) from z) (by simp)) (by simp)
    |some u=>
     rcases hO b with z | ⟨ob,xs,z⟩
     .rw [q]at z;cases z
     .have z2:=un.frzs b ob _ z
      obtain⟨e1,_⟩:=hok b _ z
      obtain⟨e2,_⟩:=hok' b _ z2
      rw[e]at e1;cases e1
      exact e2
 cases hk:K.lookup a with
 |some o=>
  have e:=KX a o hk
  rw[ha]at e
  cases e
  refine core (λ_=>none) (λ_=>.inl rfl) (.inr ⟨_,vs.toArray,_,hk,rfl,rfl,rfl,by rw[size_toArray,lenV];exact hl,rv⟩) (λb u z=>by have z':(none:Option HO)=some u:=z;cases z') (λb z=>absurd rfl z) λz=>absurd rfl z
 |none=>
  refine core (λb=>if b=a then some (.frz {cls:=.type "list",data:=.seq vs.toArray} (.lst (ns.map V.int))) else none) (λb=>?_) (.inl (.inr ⟨{cls:=.type "list",data:=.seq vs.toArray},if_pos rfl⟩)) (λb u z=>?_) (λb z=>?_) λ_=>hk
  .by_cases hb:b=a
   .exact .inr ⟨_,_,if_pos hb⟩
   .exact .inl (if_neg hb)
  .by_cases hb:b=a
   .have z':=(if_pos hb).symm.trans z
    cases z'
    subst hb
    exact⟨ha,by rw[length_map];exact hl,vs,_,rv,ha⟩
   .have z':=(if_neg hb).symm.trans z
    cases z'
  .by_cases hb:b=a
   .exact hb
   .exact absurd (if_neg hb) z
theorem walk_of {l:PySem.W.OpenLaw}{n k:Nat}{q:Program}{loose:List Str}{XP:(Str->Option Value)->Heap->Prop}{YP:World->Heap->Prop}{d:DefRec}{K:Params->Frag}{CX:World->CXT}{sp:World->Sp}{x:Str}
  (hn:l.most=some n) (hn2:n<=sizeLine) (hdf:d.params.defaults=[]) (hr:Room k callerA)
  (hY:∀(w:World) (h:Heap),YP w h->(K w.params).In h)
  (F:∀(w:World) (mg:Str->Option Value) (fa:Addr) (h:Heap),(K w.params).In h->h.Ns mainGlobals mg->mg d.name=some (.ref fa)->
   ∃fd:FuncData,(∀(s:Shared) (u:Value),BindsTo s fd ⟨[u],[]⟩ [(x,u)])/\
    ∀base:Heap,(K w.params).In base->base.Ns mainGlobals mg->FnOk l.prog w (K w.params) mg base (CX w) k fa fd [x] (sp w))
  (hsp:∀(w:World) (H:Hp) (a:Addr) (ns:List Int),ns.length<=n->Yoi H->SqL (K w.params) H a (ns.map V.int)->sp w [.ref a] H (λv _=>v = .bl true) λ_ _ _=>False)
  (hCX:∀(w:World) (H:Hp) (s:Shared) (e:Value) (s':Shared),CX w [] H s (λ_ _ _=>False) e s'->False):
  PySem.W.WalkO q loose XP YP l.row.toRowW d [] (λf vs=>PySem.call f vs):=by
 refine Att.attach_call hn hdf λw s₀ s₁ mg mb fa o pm cd doc a vs ns G σ ho hd hcd hmg hobj hints hlen hg=>?_
 have KX:=hY w _ σ
 obtain⟨fd,hb,hF⟩:=F w mg fa _ KX G.T.g hmg
 exact Xvv KX G.T.g G.T.b G.T.builtins G.T.nolimit hg hobj hints (le_trans hlen hn2) hr hF hb (λH hO hS=>hsp w H a ns hlen hO hS) λH e s'=>hCX w H s₁ e s'
def Xgw (s:Stmt)(j:Nat):Stmt:=match s with
 | .ClassDef _ _ _ body _ _ _ _ _ _ _=>body.getD j (.Pass ⟨0,0,0,0⟩)
 |_=>.Pass ⟨0,0,0,0⟩
def Xb5 (s:Stmt):Arguments:=match s with
 | .FunctionDef _ a _ _ _ _ _ _ _ _=>a
 |_=>{posonlyargs:=[],args:=[],vararg:=none,kwonlyargs:=[],kw_defaults:=[],kwarg:=none,defaults:=[]}
def Xbi (s:Stmt):List Stmt:=match s with
 | .FunctionDef _ _ b _ _ _ _ _ _ _=>b
 |_=>[]
def Xae (s:Stmt):Scope:=match s with
 | .FunctionDef _ _ _ _ _ _ sc _ _ _=>sc
 |_=>{kind:=.function,names:=[],isGenerator:=false,isCoroutine:=false}
abbrev CX0:CXT:=λ_ _ _ _ _ _=>False
abbrev E0:XK:=λ_ _ _=>False
theorem Xzq:Xoc CX0 X E0:=λ_ _ _ _ _ _ _ h=>h.elim
structure Fun (K:Frag) (x qual:Str) (st:Stmt) (f:Addr) (fd:FuncData):Prop where
 ex:∃(oc:Value) (od:Option Addr) (kV doc pm:Value) (an:Option Addr) (cdv ct:Value) (osl:Array (Option Value)),
  fd=fnOf x qual (Xb5 st) (Xbi st) (Xae st) .none kV doc pm an cdv ct/\K.lookup f=some ⟨oc,od,.func fd,osl⟩/\codeIn K cdv qual=true
 kp:keepIn K (.ref f)=true
section
variable {P:Program}{w:World}{K:Frag}{mg:Str->Option Value}{base:Heap}
theorem Fun.ok {x qual:Str}{st:Stmt}{f:Addr}{fd:FuncData}{N ps:List Str}{k:Nat}{sp:Sp}(F:Fun K x qual st f fd)(S:FnScope N ps (Xae st))(len:∀vs H Q E,sp vs H Q E->vs.length=ps.length)
  (hbody:∀(cdv:Value) (A:Around) (outer:List Env) (s:Shared) (H:Hp) (vs:List V) (Q:VK) (E:XK),Room k (A.deeper (envOfC qual (Xae st) s.heap.objs.size f cdv))->sp vs H Q E->
   ∃t,PSs (Xjs CX0 P w K mg base N qual (Xae st) f cdv A outer s H E).nox (Xbi st) t/\t {nx:=λ_ H'=>Q .non H',rt:=Q} (Xd3 N vs) H):FnOk P w K mg base CX0 (k+1) f fd ps sp:=by
 obtain⟨oc,od,kV,doc,pm,an,cdv,ct,osl,rfl,lk,hcd⟩:=F.ex
 refine Yi1 lk hcd S len λA outer s H vs Q E hr hsp=>?_
 obtain⟨t,h,q⟩:=hbody cdv A outer s H vs Q E hr hsp
 exact⟨t,h.nox,q⟩
theorem Fun.binds {x qual:Str}{st:Stmt}{f:Addr}{fd:FuncData}{ps:List Str}(F:Fun K x qual st f fd)
  (h:∀(kV doc pm:Value) (an:Option Addr) (cdv ct:Value) (us:List Value),us.length=ps.length->bindArgs (fnOf x qual (Xb5 st) (Xbi st) (Xae st) .none kV doc pm an cdv ct) ⟨us,[]⟩=pure (ps.zip us)):Xj0 K fd ps []:=by
 obtain⟨oc,od,kV,doc,pm,an,cdv,ct,osl,rfl,lk,hcd⟩:=F.ex
 exact .all (h kV doc pm an cdv ct)
theorem Ya3 {x qual:Str}{st:Stmt}{f:Addr}{oc:Value}{od an:Option Addr}{osl:Array (Option Value)}{kV doc pm cdv ct:Value}(l:K.lookup f=some ⟨oc,od,.func (fnOf x qual (Xb5 st) (Xbi st) (Xae st) .none kV doc pm an cdv ct),osl⟩)
  (c:codeIn K cdv qual=true) (k:keepIn K (.ref f)=true):Fun K x qual st f (fnOf x qual (Xb5 st) (Xbi st) (Xae st) .none kV doc pm an cdv ct):=⟨⟨oc,od,kV,doc,pm,an,cdv,ct,osl,rfl,l,c⟩,k⟩
end
section
variable {X:Cx}
theorem pv (i:Nat)(hN:X.N[i]?=some x:=by rfl)(hv:Vis X.env.scope x:=by first |exact Or.inl rfl |exact Or.inr (Or.inl rfl) |exact Or.inr (Or.inr rfl))(hd:(x==("__debug__":Str))=false:=by decide)
  (hcd:(x==("__classdict__":Str))=false:=by decide):PE X (.Name x pos) (Xod i):=Yk6 hN hv hd hcd
end
theorem Yp2 {A B:Prop}(h:B):if false=true then A else B:=by
 rw[if_neg Bool.false_ne_true]
 exact h
theorem Yfc {A B:Prop}(h:A):if true=true then A else B:=by
 rw[if_pos rfl]
 exact h
def Xbj (H H':Hp):Prop:=∀b o,H b=some o->H' b=some o
theorem Xbj.refl (H:Hp):Xbj H H:=λ_ _ h=>h
theorem Xbj.trans {H:Hp}(a:Xbj H H1)(b:Xbj H1 H2):Xbj H H2:=λc o h=>b c o (a c o h)
theorem Xbj.free {H:Hp}(e:Xbj H H')(h:H' l=Option.none):H l=Option.none:=by
 cases q:H l with
 |none=>rfl
 |some o=>
  rw[e l o q]at h
  cases h
theorem Xbj.seq {K:Frag}{H H':Hp}{a:Addr}{xs:List V}(e:Xbj H H')(h:SqL K H a xs):SqL K H' a xs:=by
 rcases h with (h | ⟨o,h⟩) |h
 .exact .inl (.inl (e _ _ h))
 .exact .inl (.inr ⟨o,e _ _ h⟩)
 .exact .inr h
end L2
set_option maxHeartbeats 4000000
namespace L2
open PySem PySem.Spec PyProof.Rows
structure DefAt (K:Frag) (mg:Str->Option Value) (x:Str) (st:Stmt) (f:Addr) (fd:FuncData):Prop where
 fn:Fun K x x st f fd
 here:mg x=some (.ref f)
structure Cal (P:Program) (w:World) (K:Frag) (mg:Str->Option Value) (base:Heap) (x:Str) (k:Nat) (ps:List Str) (sp:Sp):Prop where
 ex:∃f fd,FnOk P w K mg base CX0 k f fd ps sp/\mg x=some (.ref f)/\keepIn K (.ref f)=true/\Xj0 K fd ps []
theorem Cal.of {P:Program}{w:World}{K:Frag}{mg:Str->Option Value}{base:Heap}{x:Str}{st:Stmt}{f:Addr}{fd:FuncData}{N ps:List Str}{k:Nat}{sp:Sp}(D:DefAt K mg x st f fd)(S:FnScope N ps (Xae st))
  (hb:∀(kV doc pm:Value) (an:Option Addr) (cdv ct:Value) (us:List Value),us.length=ps.length->bindArgs (fnOf x x (Xb5 st) (Xbi st) (Xae st) .none kV doc pm an cdv ct) ⟨us,[]⟩=pure (ps.zip us))
  (len:∀vs H Q E,sp vs H Q E->vs.length=ps.length)
  (hbody:∀(cdv:Value) (A:Around) (outer:List Env) (s:Shared) (H:Hp) (vs:List V) (Q:VK) (E:XK),Room k (A.deeper (envOfC x (Xae st) s.heap.objs.size f cdv))->sp vs H Q E->
   ∃t,PSs (Xjs CX0 P w K mg base N x (Xae st) f cdv A outer s H E).nox (Xbi st) t/\t {nx:=λ_ H'=>Q .non H',rt:=Q} (Xd3 N vs) H):Cal P w K mg base x (k+1) ps sp:=
 ⟨f,fd,D.fn.ok S len hbody,D.here,D.fn.kp,D.fn.binds hb⟩
theorem Xa6 (C:Cal X.prog X.w X.K X.mg X.base x k ps sp)(hr:Room k X.A)(hg:Gl X x)(ha:PA X (e::es) t)
  (hdb:(x==("__debug__":Str))=false:=by decide) (he:starEach (e::es) X.env=(false,eval e X.env)::starEach es X.env:=by rfl) (hpl:(backTo pos (starEach es X.env)).any (·.1)=false:=by rfl):
  PE X (.Call (.Name x p) (e::es) [] pos) (Xyf sp [] E0 t):=by
 obtain⟨f,fd,F,hm,hk,hb⟩:=C.ex
 exact Yhs F hr hg hm hk hb .nil Xzq ha hdb he hpl
def spL (n:Nat)(R:List V->Hp->VK->Prop):Sp:=λvs H Q _=>vs.length=n/\R vs H Q
structure Blt (mg:Str->Option Value):Prop where
 len:mg "len"=none
 range:mg "range"=none
 max:mg "max"=none
 min:mg "min"=none
 isinstance:mg "isinstance"=none
 int:mg "int"=none
 bool:mg "bool"=none
 tuple:mg "tuple"=none
 list:mg "list"=none
 all:mg "all"=none
 zip:mg "zip"=none
 reversed:mg "reversed"=none
theorem Xbj.new (h:H p=none): Xbj H (upd H p o):=λb u e=>by rw[Xbu (Xel e h)];exact e
section
variable {X:Cx}{e:Expr}{es:List Expr}{te:TE}{t:TA}{pos:Pos}
def Yj0 (t:TA):TE:=λY H Q=>t Y H λxs H1=>xs.length<=sizeLine/\∀p H',H1 p=none->Xbj H1 H'->H' p=some (.tup xs)->Q (.ref p) H'
def Yf4 (t:TA):TE:=λY H Q=>t Y H λxs H1=>xs.length<=sizeLine/\∀p H',H1 p=none->Xbj H1 H'->H' p=some (.lst xs)->Q (.ref p) H'
theorem Xbw {x1}(h:PA X es t): PE X (.Tuple es x1 pos) (Yj0 t):=by
 intro pins s Y H Q I hq
 refine wpAny_Tuple_spliced (thn (h pos pins s Y H _ I hq) λus s1 ⟨xs,H1,I1,r,z,q⟩=>⟨by rw[<- r.length];exact z,?_⟩)
 have hf:H1 s1.heap.objs.size=none:=I1.hok.fresh (Nat.le_refl _)
 refine⟨.ref s1.heap.objs.size,upd H1 s1.heap.objs.size (.tup xs),I1.laid (t':=s1.toks) (λb u e=>get?_push_of_some _ e) (Nat.le_refl _) ?_,rfl,q _ _ hf (Xbj.new hf) Xay⟩
 exact⟨z,us,r,⟨_,get?_push_size _ rfl,rfl,_,rfl⟩⟩
theorem Xbm (h:PA X es t): PE X (.List es pos) (Yf4 t):=by
 intro pins s Y H Q I hq
 refine wpAny_List_spliced (thn (h pos pins s Y H _ I hq) λus s1 ⟨xs,H1,I1,r,z,q⟩=>⟨by rw[<- r.length];exact z,?_⟩)
 have hf:H1 s1.heap.objs.size=none:=I1.hok.fresh (Nat.le_refl _)
 refine⟨.ref s1.heap.objs.size,upd H1 s1.heap.objs.size (.lst xs),I1.laid (t':=s1.toks) (λb u e=>get?_push_of_some _ e) (Nat.le_refl _) ?_,rfl,q _ _ hf (Xbj.new hf) Xay⟩
 exact⟨z,us,0,r,get?_push_size _ rfl⟩
end
theorem Yfd {c:Bool}{A B:Prop}(hc:c=false)(h:B):if c=true then A else B:=by
 rw[hc];exact Yp2 h
def Yoj (lo c:Int)(n:Nat):It:=⟨λi _=>i<n,λi H x H'=>H'=H/\x = .int (lo+i*c),λi _=>n<=i⟩
theorem Xto {P:Program}{w:World}{K:Frag}{tg:Expr}(it:Addr)(lo c:Int)(n:Nat):Turn P w K tg (Yoj lo c n) [it] it (λi h=>IsRangeIter h it (lo+(i:Nat)*c) ((n:Int)-(i:Nat)) c) where
 mem:=by simp
 obj := λi h st b hb=>by
  have e:b=it:=by simpa using hb
  subst e
  exact⟨_,st,λv z=>by
   have z':Data.fields _=Data.cell v:=z
   cases z'⟩
 keep:=λi h h' st k=>k it (by simp) _ st
 item:=by
  kj_on
  obtain⟨f0,f1,f2,f3,f4,f5⟩:=hf it (by simp)
  have W:=Walks.range (prog:=X.prog) (w:=X.w) (I.ok.hd hc) it lo c n
  refine W.item i s _ _ hg st λv h' tk hv st' kk=>?_
  obtain⟨t,rfl⟩:=hv
  have I1:Inv X pins Y H {s with heap:=h',toks:=tk}:=I.turned (λb o hb e=>kk b o (by simpa using hb) e) f0 f1 f3 f4 f5
  exact⟨_,rfl,Xui (s:={s with heap:=h',toks:=tk}) (n := "range_iterator") st' rfl rfl rfl ⟨.int (lo+i*c),H,I1,⟨t,rfl⟩,⟨rfl,rfl⟩,st',λb hb=>(hf b hb).1⟩⟩
 done:=by
  intro X hP hw hK hc i pins s Y H E I hf st hg
  obtain⟨f0,f1,f2,f3,f4,f5⟩:=hf it (by simp)
  exact wpAny_pyNext_range_end (I.ok.hd hc) st (by have:n<=i:=hg;lia) λh' eb=>⟨rfl,I.turned (t':=s.toks) (λb o hb e=>eb b o hb e) f0 f1 f3 f4 f5⟩
 self:=λ_ _ _ _ _ st h=>wpAny_pyIter_rangeiter st h
theorem Xwp (ha : -(2^61)<=a)(ha':a<2^61)(hb : -(2^61)<=b)(hb':b<2^61)(hc:0<c)(hc':c<2^61): Builtin.Range.small a b c=true:=by
 have h1:0<=Builtin.Range.rangeSize a b c/\Builtin.Range.rangeSize a b c<=2^62:=by
  unfold Builtin.Range.rangeSize
  rw[if_pos (show c > 0 from hc)]
  split
  .have e1:(b-a-1) / c<=b-a-1:=Int.ediv_le_self _ (by lia)
   have e2:0<=(b-a-1) / c:=Int.ediv_nonneg (by lia) (by lia)
   lia
  .lia
 unfold Builtin.Range.small
 simp only[Builtin.Range.rangeFitsLong,and_eq_true,or_eq_true,decide_eq_true_eq,show c > 0 from hc,if_true]
 omega
section
variable {X:Cx}{tg:Expr}
def Xhx (i j c:Int):Nat:=(Builtin.Range.rangeSize i j c).toNat
def Yl3 (ta:TA):TI:=λY H R=>ta Y H λvs H1=>∃i j c:Int,vs=[.int i,.int j,.int c]/\(-(2^61)<=i/\i<2^61/\-(2^61)<=j/\j<2^61/\0<c/\c<2^29)/\R (Yoj i c (Xhx i j c)) H1
theorem Xh0 (hg:Gl X "range")(hm:X.mg "range"=none)(ha:PA X [a,b,d] ta)(hs:starEach [a,b,d] X.env=(false,eval a X.env)::starEach [b,d] X.env:=by rfl)
  (hpl:(backTo pos (starEach [b,d] X.env)).any (·.1)=false:=by rfl):
  PI X tg (.Call (.Name "range" p) [a,b,d] [] pos) (Yl3 ta):=by
 intro pins s Y H R I h
 refine Call_ (Xkp I hg hm boot_range (PyProof.Rows.callWith_type1 (thn (ha pos pins s Y H _ I h) λus s1 ⟨vs,H1,I1,r1,q1⟩=>?_) hs hpl))
 obtain⟨i,j,c,e,⟨q1,q2,q3,q4,q5,q6⟩,q⟩:=q1
 subst e
 cases r1 with
 |cons r rr =>
  cases rr with
  |cons r' rr=>
   cases rr with
   |cons r'' rr=>
    cases rr
    obtain⟨t,rfl⟩:=r
    obtain⟨t',rfl⟩:=r'
    obtain⟨t'',rfl⟩:=r''
    refine PySem.call_range_3 (by lia) ?_ (.inl (PyProof.noPylong_small (by omega)))
    refine wpAny_pyIter_range (IsRange.new ..) (Xwp q1 q2 q3 q4 q5 (by lia)) ?_
    have I2:Inv X pins Y H1 {s1 with heap:=s1.heap.push {cls:=.type "range",data:=.fields #[.int i t,.int j t',.int c t'']},toks:=s1.toks}:=I1.kept λb o e=>get?_push_of_some _ e
    refine⟨(s1.heap.push {cls:=.type "range",data:=.fields #[.int i t,.int j t',.int c t'']}).objs.size,[(s1.heap.push {cls:=.type "range",data:=.fields #[.int i t,.int j t',.int c t'']}).objs.size],_,_,H1,rfl,
     I2.kept (t':=s1.toks) λb o e=>get?_push_of_some _ e,Xto _ i c (Xhx i j c),?_,λb hb=>?_,q⟩
    .have e1:i+((0:Nat):Int)*c=i:=by simp
     have e2:((Xhx i j c:Nat):Int)-((0:Nat):Int)=Builtin.Range.rangeSize i j c:=by
      have z:0<=Builtin.Range.rangeSize i j c:=by
       unfold Builtin.Range.rangeSize
       rw[if_pos (show c > 0 from q5)]
       split
       .have e2:0<=(j-i-1) / c:=Int.ediv_nonneg (by lia) (by lia)
        omega
       .lia
      unfold Xhx;lia
     rw[e1,e2]
     exact get?_push_size _ rfl
    .have e:b=(s1.heap.push {cls:=.type "range",data:=.fields #[.int i t,.int j t',.int c t'']}).objs.size:=by simpa using hb
     subst e
     exact I2.fpOk (Nat.le_refl _) (I2.hok.fresh (Nat.le_refl _))
end
section
variable {X:Cx}
theorem Xbz.at (r:Xbz xs its)(h:j<its.toArray.size): ∃x,xs[j]?=some x/\Xdh x its.toArray[j]:=by
 have hl:=r.length
 have hj:j<xs.length:=by rw[size_toArray]at h;lia
 obtain⟨u,hu,ru⟩:=r.get (i:=j) (x:=xs[j]) (by simp)
 refine⟨xs[j],by simp,?_⟩
 have e:its.toArray[j]=u:=by
  have:its[j]?=some its.toArray[j]:=by simp at h ⊢<;>try exact h
  rw[this]at hu;exact Option.some.inj hu
 rw[e];exact ru
end
def Xe5 (scope:Scope)(env:Env):List (Str×Addr):=((scope.names.filter λx=>x.2 == .free).map λx=>(x.1,(env.cells.lookup x.1).getD 0)).reverse
theorem Xgz (env:Env): ∀(l:List (Str×NameKind)) (acc:List (Str×Addr)),(∀x∈l,x.2 = .free->∃c,env.cells.lookup x.1=some c)->
  (forIn l acc (λ(x:Str×NameKind) (r:List (Str×Addr))=>(match x with | (name,kind)=>if (kind==NameKind.free)=true then do let a <- cellOf env name;pure (ForInStep.yield ((name,a)::r)) else pure (ForInStep.yield r):Sem (ForInStep (List (Str×Addr)))))) =
   (pure (((l.filter λx=>x.2 == .free).map λx=>(x.1,(env.cells.lookup x.1).getD 0)).reverse++acc):Sem (List (Str×Addr)))
 | [],acc,_=>rfl
 | (n,k)::l,acc,h=>by
  rw[List.forIn_cons]
  by_cases hk:k = .free
  .subst hk
   obtain⟨c,hc⟩:=h (n,.free) mem_cons_self rfl
   have hc':env.cells.lookup n=some c:=hc
   have ih:=Xgz env l ((n,c)::acc) λx hx=>h x (mem_cons_of_mem _ hx)
   have e:cellOf env n=pure c:=by unfold cellOf;rw[hc']
   simp only[beq_self_eq_true,if_true,e,pure_bind]
   rw[ih]
   simp[hc']
  .have hb:(k==NameKind.free)=false:=by simpa using hk
   have ih:=Xgz env l acc λx hx=>h x (mem_cons_of_mem _ hx)
   simp only[hb,false_eq_true,if_false,pure_bind]
   rw[ih]
   simp[hb]
theorem Xh8 (h:∀x∈scope.names,x.2 = .free->∃c,env.cells.lookup x.1=some c): closureFor scope env=pure (Xe5 scope env):=by
 have:=Xgz env scope.names [] h
 unfold closureFor Xe5
 rw[append_nil]at this
 simp only[bind_pure]
 exact this
theorem Xh7 (x:Str): (Xe5 scope env).lookup x=if (scope.names.any λy=>y.1==x && y.2 == .free) then some ((env.cells.lookup x).getD 0) else none:=by
 have key:∀(l:List (Str×NameKind)),((l.filter λx=>x.2 == .free).map λx=>(x.1,(env.cells.lookup x.1).getD 0)).lookup x=if (l.any λy=>y.1==x && y.2 == .free) then some ((env.cells.lookup x).getD 0) else none:=by
  intro l
  induction l with
  |nil=>rfl
  |cons p l ih=>
   obtain⟨n,k⟩:=p
   by_cases hk:(k==NameKind.free)=true
   .rw [List.filter_cons,if_pos (show ((n,k).2==NameKind.free)=true from hk),map_cons,lookup_cons,ih]
    by_cases hn:n=x
    .subst hn;simp[hk]
    .have h1:(x==n)=false:=by simpa using λe=>hn e.symm
     have h2:(n==x)=false:=by simpa using hn
     simp[h1,h2]
   .have hk':(k==NameKind.free)=false:=by simpa using hk
    rw[List.filter_cons,if_neg (show ¬ ((n,k).2==NameKind.free)=true from hk),ih]
    simp[hk']
 have rev:(Xe5 scope env)=((scope.names.reverse.filter λx=>x.2 == .free).map λx=>(x.1,(env.cells.lookup x.1).getD 0)):=by
  unfold Xe5
  rw[<- map_reverse,<- List.filter_reverse]
 rw[rev,key,List.any_reverse]
theorem Xps {R:Result->Shared->Prop}(I:Nat->Shared->Prop)
  (turn : ∀n s,I n s->wpAny (model prog w) A (pyNext it) (λr s₁=>match r with
   |none=>R (.ok .next) s₁
   |some v=>wpAny (model prog w) A (letOwnedTupleGo target it v) (λ_ s₂=>wpAny (model prog w) A (assign target env v) (λ_ s₃=>wpAny (model prog w) A (eval elt env) (λx s₄=>
     wpAny (model prog w) A (call (.builtin "list.append") [acc,x]) (λ_ s₅=>∃m,m<n/\I m s₅) (λ_ _=>False) s₄) (notedBy (model prog w) A env λe s'=>R (.error e) s') s₃) (λ_ _=>False) s₂) (λ_ _=>False) s₁) (λ_ _=>False) s)
  (n:Nat) (h:I n s): codeAny (model prog w) A (.compLoop (.ListComp elt [⟨target,iter,[],0⟩] scope pos) 0 it acc env) R s:=by
 refine codeAny_loop rfl I (λn s hI=>?_) n h
 refine wpAny_noted ?_
 rw[compTurn_list1]
 refine wpAny_bind (wpAny_standAt (wpAny_bind (wpAny_mono (turn n s hI) (λr s₁ h₁=>?_) λ_ _ f=>f.elim)))
 cases r with
 |none=>exact wpAny_pure h₁
 |some v=>
  refine wpAny_bind (wpAny_mono h₁ (λ_ s₂ h₂=>?_) λ_ _ f=>f.elim)
  exact wpAny_bind (wpAny_mono h₂ (λ_ s₃ h₃=>wpAny_bind (wpAny_bind (wpAny_mono h₃ (λx s₄ h₄=>wpAny_bind (wpAny_mono h₄ (λ_ s₅ h₅=>wpAny_pure (wpAny_pure ⟨rfl,h₅⟩)) λ_ _ f=>f.elim)) λ_ _ f=>f))) λ_ _ f=>f.elim)
theorem Xtb {R:Result->Shared->Prop}(I:Nat->Shared->Prop)
  (turn : ∀n s,I n s->wpAny (model prog w) A (pyNext it) (λr s₁=>match r with
   |none=>R (.ok .next) s₁
   |some v=>wpAny (model prog w) A (letOwnedTupleGo target it v) (λ_ s₂=>wpAny (model prog w) A (assign target env v) (λ_ s₃=>wpAny (model prog w) A (eval elt env) (λx s₄=>
     wpAny (model prog w) A (call (.builtin "list.append") [acc,x]) (λ_ s₅=>∃m,m<n/\I m s₅) (λ_ _=>False) s₄) (λ_ _=>False) s₃) (λ_ _=>False) s₂) (λ_ _=>False) s₁) (λ_ _=>False) s)
  (n:Nat) (h:I n s): codeAny (model prog w) A (.compLoop (.ListComp elt [⟨target,iter,[],0⟩] scope pos) 0 it acc env) R s:=
 Xps I (λn s hI=>wpAny_mono (turn n s hI) (λr s₁ h₁=>by
  cases r with
  |none=>exact h₁
  |some v=>exact wpAny_mono h₁ (λ_ _ h₂=>wpAny_mono h₂ (λ_ _ h₃=>wpAny_mono h₃ (λ_ _ h=>h) λ_ _ f=>f.elim) λ_ _ f=>f) λ_ _ f=>f) λ_ _ f=>f) n h
theorem Xdx (x:Str): (relabel scope env).names.lookup x=(scope.names.lookup x).map λk=>if (k==NameKind.free && env.scope.kind == .function && env.kindOf x==some .cell)=true then NameKind.cell else k:=by
 have key:∀l:List (Str×NameKind),(l.map λ(n,k)=>if (k==NameKind.free && env.scope.kind == .function && env.kindOf n==some .cell) then (n,NameKind.cell) else (n,k)).lookup x =
   (l.lookup x).map λk=>if (k==NameKind.free && env.scope.kind == .function && env.kindOf x==some .cell)=true then NameKind.cell else k:=by
  intro l
  induction l with
  |nil=>rfl
  |cons p l ih=>
   obtain⟨n,k⟩:=p
   rw[map_cons]
   by_cases hn:x=n
   .subst hn
    by_cases hc:(k==NameKind.free && env.scope.kind == .function && env.kindOf x==some .cell)=true
    .simp only[hc,if_true,lookup_cons,beq_self_eq_true,map_some]
    .simp only[if_neg hc,lookup_cons,beq_self_eq_true,map_some]
   .have hb:(x==n)=false:=by simpa using hn
    by_cases hc:(k==NameKind.free && env.scope.kind == .function && env.kindOf n==some .cell)=true
    .simp only[hc,if_true,lookup_cons,hb];exact ih
    .simp only[if_neg hc,lookup_cons,hb];exact ih
 exact key scope.names
def Xma (ix:List (Option Nat))(Y:St):St:=ix.map λo=>o.bind λi=>(Y[i]?).join
def Xb2 (X:Cx)(scope:Scope):List Str->List (Option Nat)->Prop
 | [],[]=>True
 |_::N,none::ix=>Xb2 X scope N ix
 |x::N,some i::ix=>(X.N[i]?=some x/\scope.names.lookup x=some .free/\(X.env.kindOf x=some .cell∨X.env.kindOf x=some .free))/\Xb2 X scope N ix
 |_,_=>False
theorem Xb2.get:∀{N:List Str} {ix:List (Option Nat)},Xb2 X scope N ix->N.length=ix.length/\∀(j i:Nat),ix[j]?=some (some i)->
  ∃x,N[j]?=some x/\X.N[i]?=some x/\scope.names.lookup x=some .free/\(X.env.kindOf x=some .cell∨X.env.kindOf x=some .free)
 | [],[],_=>⟨rfl,λj i h=>by simp at h⟩
 |x::N,none::ix,h=>by
  obtain⟨h1,h2⟩:=Xb2.get (show Xb2 X scope N ix from h)
  refine⟨by simp[h1],λj i e=>?_⟩
  cases j with
  |zero=>simp at e
  |succ j=>simpa using h2 j i e
 |x :: N,some i'::ix,h=>by
  obtain⟨h0,h⟩:=(show _/\Xb2 X scope N ix from h)
  obtain⟨h1,h2⟩:=Xb2.get h
  refine⟨by simp[h1],λj i e=>?_⟩
  cases j with
  |zero=>
   simp at e
   subst e
   exact⟨x,rfl,h0⟩
  |succ j=>simpa using h2 j i e
 | [],_::_,h=>h.elim
 |_::_,[],h=>by cases h
structure BlkScope (outer scope:Scope):Prop where
 kind:scope.kind = .function
 cell:∀y∈scope.names,y.2≠.cell
 free:∀y∈scope.names,y.2 = .free->outer.names.lookup y.1=some .cell∨outer.names.lookup y.1=some .free
 names:∀y∈scope.names,y.2 = .local->scope.names.lookup y.1=some .local
abbrev Cx.blk (X:Cx)(scope:Scope)(N:List Str)(fp:List Addr)(s:Shared)(H:Hp):Cx:=
 {X with N:=N,s₀:=s,H₀:=H,env:=compEnvC scope (Xe5 scope X.env) s.heap.objs.size X.env,outer:=X.stack,ex:=fp,fn:=λ_=>false,pn:=[],xe:=λ_ _=>False}
section
variable {X:Cx}{pins:List (Addr×Obj)}{Y:St}{H:Hp}{s:Shared}{scope:Scope}{N:List Str}{ix:List (Option Nat)}{fp:List Addr}
theorem Xiq (ok:X.Ok)(S:BlkScope X.env.scope scope)(h:(Xe5 scope X.env).lookup x=some c): X.env.cells.lookup x=some c:=by
 rw[Xh7]at h
 split at h
 .rename_i ha
  obtain⟨y,hy,e⟩:=any_eq_true.mp ha
  rw[and_eq_true,beq_iff_eq,beq_iff_eq]at e
  obtain⟨e1,e2⟩:=e
  subst e1
  obtain⟨c',hc'⟩:=ok.has y.1 (S.free y hy e2)
  rw[hc']at h ⊢
  exact h
 .cases h
theorem Xmp (ok:X.Ok)(h:scope.names.lookup x=some .free)(hk:X.env.kindOf x=some .cell∨X.env.kindOf x=some .free): ∃c,(Xe5 scope X.env).lookup x=some c/\X.env.cells.lookup x=some c:=by
 obtain⟨c,hc⟩:=ok.has x hk
 refine⟨c,?_,hc⟩
 rw[Xh7,if_pos,hc]
 .rfl
 .exact any_eq_true.mpr ⟨(x,.free),PySem.mem_of_lookup h,by simp⟩
theorem Inv.blkOk (I:Inv X pins Y H s)(S:BlkScope X.env.scope scope)(hf:∀b∈fp,Xmt X pins H b)(hlt:∀b∈fp,b<s.heap.objs.size): (X.blk scope N fp s H).Ok where
 mod:=I.ok.mod
 kind:=S.kind
 glob:=I.ok.glob
 blt:=I.ok.blt
 above:=Nat.le_refl _
 inj:=λx y c h1 h2=>I.ok.inj x y c (Xiq I.ok S h1) (Xiq I.ok S h2)
 has := λx hx=>by
  have hx':(relabel scope X.env).names.lookup x=some .cell∨(relabel scope X.env).names.lookup x=some .free:=hx
  rw[Xdx]at hx'
  cases e:scope.names.lookup x with
  |none=>rw[e]at hx';simp at hx'
  |some k=>
   have hm:=PySem.mem_of_lookup e
   have hk:k = .free:=by
    by_cases hk:k = .free
    .exact hk
    .exfalso
     have hb:(k==NameKind.free)=false:=by simpa using hk
     have hc:k≠.cell:=S.cell _ hm
     have e2:(if (k==NameKind.free && X.env.scope.kind == .function && X.env.kindOf x==some .cell)=true then NameKind.cell else k)=k:=if_neg (by rw[hb,Bool.false_and];exact Bool.false_ne_true)
     rw[e,map_some,e2]at hx'
     rcases hx' with z |z
     .exact hc (Option.some.inj z)
     .exact hk (Option.some.inj z)
   subst hk
   obtain⟨c,h1,_⟩:=Xmp I.ok e (S.free _ hm rfl)
   exact⟨c,h1⟩
 cab:=λx c h _=>by cases h
 hd:=I.ok.hd
 frames:=I.ok.frames
 stk:=.inl rfl
 exf:=λb hb=>⟨ne_of_lt (hlt b hb),λx c h=>(hf b hb).2.2.2.2.1 x c (Xiq I.ok S h)⟩
 bs:=I.bs
 bsz:=le_trans I.ok.bsz I.sz
 noex:=λb o e hb=>by
  rcases (hf b hb).2.2.2.1 with z |z
  .exact I.ok.noex b o e z
  .exact absurd (lt_of_lt_of_le (lt_size e) (le_trans I.ok.bsz z)) (lt_irrefl _)
 exfs:=λb hb h=>by
  rcases mem_cons.mp (I.stkSub b h) with z |z
  .exact (hf b hb).2.1 z
  .exact (hf b hb).2.2.1 z
 funs:=I.stack
 frf:=I.stkFree
theorem Inv.blk {m:Str->Option Value}(I:Inv X pins Y H s)(S:BlkScope X.env.scope scope)(cap:Xb2 X scope N ix)(hf:∀b∈fp,Xmt X pins H b)(hlt:∀b∈fp,b<s.heap.objs.size)
  (hns:h₁.Ns s.heap.objs.size m) (hsb:Heap.SameBut s.heap.objs.size (s.heap.push o) h₁): Inv (X.blk scope N fp s H) [] (Xma ix Y) H {s with heap:=h₁,toks:=t}:=by
 have keep:∀b o,s.heap.get? b=some o->h₁.get? b=some o:=λb o e=>hsb.extBut b o (ne_of_lt (lt_size e)) (get?_push_of_some _ e)
 obtain⟨hl,hcap⟩:=cap.get
 refine⟨I.blkOk S hf hlt,rfl,I.bare,Un.kept keep,⟨m,hns,λj x v e1 e2 e3=>?_⟩,λx c e=>?_,I.hok.fresh (Nat.le_refl _),λx c e=>I.freeC x c (Xiq I.ok S e),λp hp=>absurd (show p∈([]:List (Addr×Obj)) from hp) (by simp),I.hok.kept keep,by unfold Xma;rw[length_map];exact hl.symm⟩
 .obtain ⟨i,h1,h2⟩:∃i,ix[j]?=some (some i)/\Y[i]?=some (some v):=by
   unfold Xma at e2
   rw[getElem?_map]at e2
   cases q:ix[j]? with
   |none=>rw[q]at e2;cases e2
   |some o=>
    rw[q]at e2
    cases o with
    |none=>simp at e2
    |some i=>
     refine⟨i,rfl,?_⟩
     cases q2:Y[i]? with
     |none=>simp[q2]at e2
     |some o2=>simp[q2]at e2;rw[e2]
  obtain⟨y,n1,n2,n3,n4⟩:=hcap j i h1
  have hxy:x=y:=by rw[e1]at n1;exact Option.some.inj n1
  subst hxy
  obtain⟨m',hn',hl'⟩:=I.loc
  have vis:Vis X.env.scope x:=by rcases n4 with k |k;exact .inr (.inl k);exact .inr (.inr k)
  obtain⟨u,r,l⟩:=hl' i x v n2 h2 vis
  refine⟨u,r,.inr ⟨?_,?_⟩⟩
  .show (relabel scope X.env).names.lookup x=some .cell∨(relabel scope X.env).names.lookup x=some .free
   rw[Xdx,n3]
   by_cases hc:(NameKind.free==NameKind.free && X.env.scope.kind == .function && X.env.kindOf x==some .cell)=true
   .left;simp only[map_some,if_pos hc]
   .right;simp only[map_some,if_neg hc]
  .obtain ⟨c,c1,c2⟩:=Xmp I.ok n3 n4
   refine⟨c,c1,?_⟩
   rcases l with⟨hk,_⟩ | ⟨_,c',hc',z⟩
   .rcases n4 with k |k
    .rw [hk]at k;cases k
    .rw [hk]at k;cases k
   .rw [c2]at hc';cases hc'
    obtain⟨ob,ho,hd⟩:=z
    exact⟨ob,keep _ _ ho,hd⟩
 .obtain ⟨v,ob,ho,hd⟩:=I.cell x c (Xiq I.ok S e)
  exact⟨v,ob,keep _ _ ho,hd⟩
theorem Inv.unblk (I:Inv X pins Y H s)(hf:∀b∈fp,Xmt X pins H b)(J:Inv (X.blk scope N fp s H) pins' Y' H' s'): Inv X pins Y H' s':=
 I.call' J.os J.base J.hok J.bare λb hb=>⟨(hf b hb).2.2.2.1,(hf b hb).2.1,(hf b hb).2.2.2.2.1,(hf b hb).2.2.2.2.2⟩
theorem Inv.frameGone (I:Inv X pins Y H s)(f:Xmt X pins H C)(hs:Heap.SameBut C s.heap h'): Inv X pins Y H {s with heap:=h'}:=
 I.turned (t':=s.toks) (λb o hb e=>hs.extBut b o hb e) f.1 f.2.1 f.2.2.2.1 f.2.2.2.2.1 f.2.2.2.2.2
end
def Xjz (J:It)(D:Addr)(g:TG)(te:TE)(Y₀:St)(H₀:Hp)(fin:Hp->Prop):Prop:=
 ∃W:Nat->Nat->St->List V->Hp->Prop,(∃m,W 0 m Y₀ [] H₀)/\∀i m Y ys H,W i m Y ys H->
  (J.stop i H/\fin H)∨(ys.length<sizeLine/\J.go i H/\∀x H',J.yld i H x H'->g x Y H' λY2 H2=>te Y2 H2 λy H3=>H3 D=some (.lst ys)/\∃m',m'<m/\W (i+1) m' Y2 (ys++[y]) (upd H3 D (.lst (ys++[y]))))
def Xoj (wi:TI)(ix:List (Option Nat))(g:TG)(te:TE):TE:=λY H Q=>wi Y H λJ H1=>∀D,H1 D=none->Xjz J D g te (Xma ix Y) (upd H1 D (.lst [])) λH'=>Q (.ref D) H'
section
variable {X:Cx}{tg elt iter:Expr}{scope:Scope}{N:List Str}{ix:List (Option Nat)}{wi:TI}{g:TG}{te:TE}{pos:Pos}
theorem Xk9 {RR:Value->Addr->Result->Shared->Prop}(hc:X.calm=true)(hi:PI X tg iter wi)(S:BlkScope X.env.scope scope)(cap:Xb2 X scope N ix)
  (hg:∀fp s H,PG (X.blk scope N fp s H) tg g) (I:Inv X pins Y H s) (h:Xoj wi ix g te Y H Q)
  (he:∀D fp s3 H3 pins' s7 Y7 H7 Q',Inv X pins Y H3 s3->(∀b∈fp,Xmt X pins H3 b)->Inv (X.blk scope N fp s3 H3) pins' Y7 H7 s7->te Y7 H7 Q'->wpAny (model X.prog X.w) X.A (eval elt (compEnvC scope (Xe5 scope X.env) s3.heap.objs.size X.env)) (EP (X.blk scope N fp s3 H3) pins' Y7 Q') (notedBy (model X.prog X.w) X.A (compEnvC scope (Xe5 scope X.env) s3.heap.objs.size X.env) λe s'=>RR (.ref D) s3.heap.objs.size (.error e) s') s7)
  (hRR:∀D C H' s',Inv X pins Y H' s'->Xmt X pins H' C->(∃m,s'.heap.Ns C m)->Q (.ref D) H'->RR (.ref D) C (.ok .next) s'):
  wpAny (model X.prog X.w) X.A (eval iter X.env) (λx s₁=>wpAny (model X.prog X.w) X.A (pyIter x) (λit s₂=>wpAny (model X.prog X.w) X.A (newList []) (λacc s₃=>
   wpAny (model X.prog X.w) X.A (newFunctionEnv scope X.env.globals (Xe5 scope X.env) [] X.env.qual none .none (some X.env)) (λcenv s₄=>
    codeAny (model X.prog X.w) X.A (.compStart (.ListComp elt [⟨tg,iter,[],0⟩] scope pos) 0 it acc {cenv with scope:=relabel scope X.env}) (RR acc cenv.locals) s₄) X.xe s₃) X.xe s₂) X.xe s₁) X.xe s:=by
 refine thn (hi pins s Y H _ I h) λv s1 h1=>thn h1 λitv s2 h2=>?_
 obtain⟨it,fp,tn,J,H2,e,I2,T,st2,f2,R⟩:=h2
 subst e
 refine wpAny_newObj_type (wpAny_newFunctionEnv S.cell (by intro y hy;simp at hy) (λh₁ hns₁ hsb₁=>?_) S.kind)
 dsimp only at hns₁ hsb₁ ⊢
 have I3:Inv X pins Y (upd H2 s2.heap.objs.size (.lst [])) {s2 with heap:=s2.heap.push {cls:=.type "list",data:=.seq ([]:List Value).toArray},toks:=s2.toks}:=I2.lnew .nil (zero_le _)
 have hD:H2 s2.heap.objs.size=none:=I2.fresh
 have lt2:∀b∈fp,b<s2.heap.objs.size:=λb hb=>by obtain⟨o,e,_⟩:=T.obj 0 _ st2 b hb;exact lt_size e
 obtain⟨W,⟨m0,w0⟩,turn⟩:=R s2.heap.objs.size hD
 generalize hs3:({s2 with heap:=s2.heap.push {cls:=.type "list",data:=.seq ([]:List Value).toArray},toks:=s2.toks}:Shared)=s3 at I3
 have e3:s3.heap=s2.heap.push {cls:=.type "list",data:=.seq ([]:List Value).toArray}:=by rw[<- hs3]
 have sz3:s3.heap.objs.size=s2.heap.objs.size+1:=by rw[e3,size_push]
 have f3:∀b∈fp,Xmt X pins (upd H2 s2.heap.objs.size (.lst [])) b:=λb hb=>⟨by rw[Xbu (ne_of_lt (lt2 b hb))];exact (f2 b hb).1,(f2 b hb).2⟩
 have lt3:∀b∈fp,b<s3.heap.objs.size:=λb hb=>by rw[sz3];exact Nat.lt_succ_of_lt (lt2 b hb)
 have hns₁':=hns₁
 rw[<- e3]at hns₁'
 have hsb₁':=hsb₁
 rw[<- e3]at hsb₁'
 have J0:=I3.blk (t:=s2.toks+([]:List (Str×Value)).length) S cap f3 lt3 hns₁' hsb₁'
 have keep1:∀b o,s2.heap.get? b=some o->h₁.get? b=some o:=λb o e=>hsb₁.extBut b o (by rw[size_push];exact ne_of_lt (Nat.lt_succ_of_lt (lt_size e))) (get?_push_of_some _ (get?_push_of_some _ e))
 have st1:tn 0 h₁:=T.keep 0 _ _ st2 λb _ o e=>keep1 b o e
 have stat:∀{H':Hp},(∀b∈fp,H' b=none)->∀b∈fp,Xmt (X.blk scope N fp s3 (upd H2 s2.heap.objs.size (.lst []))) [] H' b:=λ{H'} hn b hb=>by
  refine⟨hn b hb,ne_of_lt (lt3 b hb),λz=>?_,.inl hb,λx c e=>(f2 b hb).2.2.2.2.1 x c (Xiq I.ok S e),λp hp=>absurd (show p∈([]:List (Addr×Obj)) from hp) (by simp)⟩
  rcases mem_cons.mp (I3.stkSub b z) with y |y
  .exact (f2 b hb).2.1 y
  .exact (f2 b hb).2.2.1 y
 have loop:∀s4:Shared,s4={s3 with heap:=h₁,toks:=s2.toks+([]:List (Str×Value)).length}->
   codeAny (model X.prog X.w) X.A (.compLoop (.ListComp elt [⟨tg,iter,[],0⟩] scope pos) 0 (.ref it) (.ref s2.heap.objs.size) (compEnvC scope (Xe5 scope X.env) s3.heap.objs.size X.env)) (RR (.ref s2.heap.objs.size) s3.heap.objs.size) s4:=by
  rintro s4 rfl
  refine Xps (λn s'=>∃i Y' ys H',Inv (X.blk scope N fp s3 (upd H2 s2.heap.objs.size (.lst []))) [] Y' H' s'/\tn i s'.heap/\(∀b∈fp,H' b=none)/\W i n Y' ys H') ?_ m0 ⟨0,_,[],_,J0,st1,λb hb=>(f3 b hb).1,w0⟩
  rintro n s' ⟨i,Y',ys,H',I',st',fr',w'⟩
  rcases turn i n Y' ys H' w' with⟨stop,fin⟩ | ⟨hy,go,step⟩
  .refine thn (T.done (X.blk scope N fp s3 (upd H2 s2.heap.objs.size (.lst []))) rfl rfl rfl hc i [] s' Y' H' _ I' (stat fr') st' stop) λr s5 ⟨hr,I5⟩=>?_
   subst hr
   obtain⟨m,hn,_⟩:=I5.loc
   exact hRR _ _ H' s5 (I3.unblk f3 I5) (I3.fpOk (Nat.le_refl _) I5.free) ⟨m,hn⟩ fin
  .refine thn (T.item (X.blk scope N fp s3 (upd H2 s2.heap.objs.size (.lst []))) rfl rfl rfl hc i [] s' Y' H' _ I' (stat fr') st' go) λr s5 ⟨u,hr,h5⟩=>?_
   subst hr
   refine thn h5 λ_ s6 ⟨x,H6,I6,r6,y6,st6,fr6⟩=>?_
   have I6':=I6.pinned (stat fr6) (T.obj _ _ st6)
   refine thn (hg fp s3 _ _ s6 Y' H6 x u _ I6' r6 (step x H6 y6)) λ_ s7 ⟨Y7,H7,I7,q7⟩=>?_
   refine wpAny_mono (he s2.heap.objs.size fp s3 _ _ s7 Y7 H7 _ I3 f3 I7 q7) (λyv s8 ⟨y,H8,I8,r8,hl8,m',hm',w8⟩=>?_) λ_ _ z=>z
   refine thn (Xcb _ s8 Y7 H8 (.ref s2.heap.objs.size) [y] (.ref s2.heap.objs.size) [yv] (λ_ H9=>H9=upd H8 s2.heap.objs.size (.lst (ys++[y]))) I8 rfl (.cons r8 .nil) ⟨_,ys,y,rfl,rfl,hl8,hy,rfl⟩) λ_ s9 ⟨_,H9,I9,_,e9⟩=>?_
   subst e9
   refine⟨m',hm',i+1,Y7,ys++[y],_,I9.unpinned,T.keep _ _ _ st6 λb hb o e=>(I9.pin (b,o) (mem_append_right _ (mem_append_right _ (Xem hb e)))).1,λb hb=>?_,w8⟩
   obtain⟨o,e,_⟩:=T.obj _ _ st6 b hb
   exact (I9.pin (b,o) (mem_append_right _ (mem_append_right _ (Xem hb e)))).2.1
 have fin:=loop _ rfl
 rw[<- hs3]at fin
 exact codeAny_compStart_list fin (T.self _ 0 _ _ _ st1 fin)
theorem Xta {RR:Value->Addr->Result->Shared->Prop}(hc:X.calm=true)(hi:PI X tg iter wi)(S:BlkScope X.env.scope scope)(cap:Xb2 X scope N ix)
  (hg:∀fp s H,PG (X.blk scope N fp s H) tg g) (he:∀fp s H,PE (X.blk scope N fp s H) elt te) (I:Inv X pins Y H s) (h:Xoj wi ix g te Y H Q)
  (hRR:∀D C H' s',Inv X pins Y H' s'->Xmt X pins H' C->(∃m,s'.heap.Ns C m)->Q (.ref D) H'->RR (.ref D) C (.ok .next) s'):
  wpAny (model X.prog X.w) X.A (eval iter X.env) (λx s₁=>wpAny (model X.prog X.w) X.A (pyIter x) (λit s₂=>wpAny (model X.prog X.w) X.A (newList []) (λacc s₃=>
   wpAny (model X.prog X.w) X.A (newFunctionEnv scope X.env.globals (Xe5 scope X.env) [] X.env.qual none .none (some X.env)) (λcenv s₄=>
    codeAny (model X.prog X.w) X.A (.compStart (.ListComp elt [⟨tg,iter,[],0⟩] scope pos) 0 it acc {cenv with scope:=relabel scope X.env}) (RR acc cenv.locals) s₄) X.xe s₃) X.xe s₂) X.xe s₁) X.xe s:=
 Xk9 hc hi S cap hg I h (λD fp s3 H3 pins' s7 Y7 H7 Q' _ _ I7 q=>wpAny_mono (he fp s3 H3 pins' s7 Y7 H7 Q' I7 q) (λ_ _ z=>z) λ_ _ z=>z.elim) hRR
theorem Xmq (S:BlkScope X.env.scope scope)(ok:X.Ok): closureFor scope X.env=pure (Xe5 scope X.env):=Xh8 λx hx e=>ok.has x.1 (S.free x hx e)
theorem Xd6 (hc:X.calm=true)(hi:PI X tg iter wi)(S:BlkScope X.env.scope scope)(cap:Xb2 X scope N ix)(hg:∀fp s H,PG (X.blk scope N fp s H) tg g)(he:∀fp s H,PE (X.blk scope N fp s H) elt te)
  (hs:∀x,foldedSetIterable iter X.env x=pure x:=by intro _;rfl): PE X (.ListComp elt [⟨tg,iter,[],0⟩] scope pos) (Xoj wi ix g te):=by
 intro pins s Y H Q I h
 refine wpAny_comprehension_free rfl hs (Xmq S I.ok) S.kind S.names (Xta (RR:=λacc C=>compPost (model X.prog X.w) X.A X.xe none (EP X pins Y Q) acc C) hc hi S cap hg he I h λD C H' s' I' f' hn q=>?_)
 obtain⟨m,hn⟩:=hn
 exact⟨m,hn,λh' hs'=>⟨.ref D,H',I'.frameGone f' hs',rfl,q⟩⟩
theorem Xk1 (hN:X.N.Nodup)(hiN:X.N[i]?=some y)(hy:Loc X.env.scope y)(hc:X.calm=true)(hi:PI X tg iter wi)(S:BlkScope X.env.scope scope)(cap:Xb2 X scope N ix)
  (hg:∀fp s H,PG (X.blk scope N fp s H) tg g) (he:∀fp s H,PE (X.blk scope N fp s H) elt te)
  (hsw:swapsWith (.ListComp elt [⟨tg,iter,[],0⟩] scope pos) (some (.Name y py)) spos.line X.env=pure true:=by rfl)
  (hs:∀x,foldedSetIterable iter X.env x=pure x:=by intro _;rfl) (hf:X.fn y=true∨X.env.scope.names.lookup y=some .local:=by first |exact .inl rfl |exact .inr rfl |assumption):
  PS X (.Assign [.Name y py] (.ListComp elt [⟨tg,iter,[],0⟩] scope pos) spos) (Xyg (Xoj wi ix g te) (Xo2 i)):=by
 intro pins s Y H D I h
 rw[exec_Assign_Name_used _ _ _ _ hsw]
 refine wpAny_bind (wpAny_standAt (wpAny_bind ?_))
 refine wpAny_bind (wpAny_mono (wpAny_comprehension_free (use:=some (assign (.Name y py) X.env)) (Q:=λ_ s'=>SP X pins D .next s') rfl hs (Xmq S I.ok) S.kind S.names
  (Xta (RR:=λacc C=>compPost (model X.prog X.w) X.A X.xe (some (assign (.Name y py) X.env)) (λ_ s'=>SP X pins D .next s') acc C) hc hi S cap hg he I h λl C H' s' I' f' hn q=>?_)) (λ_ s' hq=>wpAny_pure (wpAny_pure hq)) λ_ _ e=>e)
 obtain⟨m,hn⟩:=hn
 refine wpAny_assign_Name (Xmy (v:=.ref l) I' hN hiN hy rfl (λs'' I'' ⟨a,hsb,ha⟩=>?_) hf)
 have hCa:C≠a:=by
  rcases ha with z |z
  .rw [z];exact f'.2.1
  .exact Ne.symm (f'.2.2.2.2.1 y a z)
 exact⟨m,hn.sameBut hsb hCa,λh' hs'=>⟨_,H',I''.frameGone f' hs',q⟩⟩
end
section
variable {X:Cx}
set_option exponentiation.threshold 5000 in
def Ykx (K:Frag):List V->Hp->VK->Prop:=λxs H Q=>∃(l:Addr) (ns:List Int),xs=[.ref l]/\SqL K H l (ns.map V.int)/\0<ns.length/\∀M,M∈ns->(∀a,a∈ns->a<=M)->Q (.int M) H
theorem Xtc (hc:X.calm=true):Xhb X (.builtin "max") (Ykx X.K):=by
 intro pins s Y H xs us Q I r h
 obtain⟨l,ns,rfl,hq,hne,q⟩:=h
 obtain⟨u,rfl,ru⟩:=Xhg r
 cases ru
 obtain⟨its,rv,pl,hz⟩:=I.list hq
 have hi:IntsAre its ns:=Xxl rv
 have hl:=pl.isList
 obtain⟨ys,e⟩:=hi.allInts.items
 have hns:ns=ys.toList.map (·.1):=by rw[<- hi.numsOf,<- nums_intItems,<- e]
 have hsz:0<ys.size:=by
  have h3:=hne;rw[hns,length_map]at h3;exact h3
 rw[e]at hl
 refine max_intList (I.ok.hd hc) hl hsz λv h' tk hv hk=>?_
 obtain⟨t,rfl⟩:=intItems_at hv
 obtain⟨h1,h2⟩:=argBest_gt (numAt ys) (ys.size-1)
 refine⟨.int _,H,I.kept hk,⟨t,rfl⟩,q _ ?_ λa ha=>?_⟩
 .rw [hns,numAt_eq];exact getD_mem (by rw[length_map,length_toList];omega)
 .rw [hns]at ha
  obtain⟨j,hj,rfl⟩:=mem_getD ha
  rw[length_map,length_toList]at hj
  rw[<- numAt_eq];exact h2 j (by lia)
def Yk1 (K:Frag):V->V->Hp->VK->Prop:=λx y H Q=>∃p xs i v,x = .ref p/\y = .int i/\SqL K H p xs/\0<=i/\xs[i.toNat]?=some v/\Q v H
theorem Yau:Ypm X (Yk1 X.K):=by
 intro pins s Y H o i ov iv Q I ro ri h
 obtain⟨p,xs,k,v,rfl,rfl,hq,h0,hx,q⟩:=h
 cases ro
 obtain⟨t,rfl⟩:=ri
 obtain⟨its,r,pl,hz⟩:=I.list hq
 obtain⟨w',ew,rw'⟩:=r.get hx
 have hn:=Xnr
 have hlt:k.toNat<xs.length:=(List.getElem?_eq_some_iff.mp hx).1
 exact wpAny_getItem_list pl.isList h0 (by lia) (by simpa using ew) ⟨v,H,I,rw',q⟩
end
section
variable {X:Cx}
theorem Xhb.imp {f:Value}{r r':List V->Hp->VK->Prop}(h:Xhb X f r)(hi:∀xs H Q,r' xs H Q->r xs H Q):Xhb X f r':=λpins s Y H xs us Q I rs q=>h pins s Y H xs us Q I rs (hi xs H Q q)
def Xze (K:Frag):List V->Hp->VK->Prop:=λxs H Q=>∃p ys,xs=[.ref p]/\(SqL K H p ys∨SqT K H p ys)/\∀l H',H l=none->Xbj H H'->H' l=some (.lst ys)->Q (.ref l) H'
def Xzd (K:Frag):List V->Hp->VK->Prop:=λxs H Q=>∃p ys,xs=[.ref p]/\SqL K H p ys/\∀l H',H l=none->Xbj H H'->H' l=some (.tup ys)->Q (.ref l) H'
theorem Xpt:Xhb X (.type "list") (Xze X.K):=Xtd.imp λxs H Q ⟨p,ys,e,h,q⟩=>⟨p,ys,e,h,λl hl=>q l _ hl (Xbj.new hl) Xay⟩
theorem Xg0:Xhb X (.type "tuple") (Xzd X.K):=Xq2.imp λxs H Q ⟨p,ys,e,h,q⟩=>⟨p,ys,e,.inl ⟨h,λl hl=>q l _ hl (Xbj.new hl) Xay⟩⟩
def Yow (K:Frag):V->Option Int->Option Int->Hp->VK->Prop:=λx lo hi H Q=>∃a xs,x = .ref a/\SqL K H a xs/\∀p H',H p=none->Xbj H H'->H' p=some (.lst (Yb3 xs lo hi))->Q (.ref p) H'
theorem SlR.imp {r r':V->Option Int->Option Int->Hp->VK->Prop}(h:SlR X r)(hi:∀x lo hi H Q,r' x lo hi H Q->r x lo hi H Q):SlR X r':=λpins s Y H x v vl vu lo hi' sl Q I rx hs pl pu q=>h pins s Y H x v vl vu lo hi' sl Q I rx hs pl pu (hi _ _ _ _ _ q)
theorem Xu9:SlR X (Yow X.K):=Yge.imp λx lo hi H Q ⟨a,xs,e,h,q⟩=>⟨a,xs,e,h,λp hp=>q p _ hp (Xbj.new hp) Xay⟩
end
end L2
namespace PySem
namespace F
end F
section
variable {prog:Program}{w:World}{A:Around}{E:Value->Shared->Prop}{s:Shared}
end
end PySem
namespace L2
open PySem PySem.Spec PyProof.Rows
section
variable {X:Cx}{tg:Expr}
end
theorem Xbj.seqT {K:Frag}{H H':Hp}{a:Addr}{xs:List V}(e:Xbj H H')(h:SqT K H a xs):SqT K H' a xs:=by
 rcases h with (h | ⟨o,h⟩) |h
 .exact .inl (.inl (e _ _ h))
 .exact .inl (.inr ⟨o,e _ _ h⟩)
 .exact .inr h
theorem Xau {X:Cx}{x:Str}{i:Int}{pos:Pos}(hg:Gl X x)(hm:∃t,X.mg x=some (.int i t))(hd:(x==("__debug__":Str))=false:=by decide):PE X (.Name x pos) (tC (.int i)):=by
 obtain⟨t,e⟩:=hm
 exact Xjp hg e ⟨t,rfl⟩ hd
inductive D where
 |int (i:Int) |bl (b:Bool) |non |str (x:Str) |ty (n:String) |fn (x:Str) |tup (ds:List D) |lst (ds:List D) |dic |exc (c:Str) |obj (c:Str) (ns:List Str) (ds:List D)
def Xuq (a:Addr)(c:Value):Heap->Prop:=λh=>∃o,h.get? a=some o/\o.cls=c
mutual
def Rep (K:Frag)(F:Hp):D->V->Prop
 | .int i,v=>v = .int i
 | .bl b,v=>v = .bl b
 | .non,v=>v = .non
 | .str x,v=>v = .str x
 | .ty n,v=>v = .ty n
 | .fn x,v=>∃f,v = .ref f/\nsIn K mainGlobals x=some (some (.ref f))
 | .tup ds,v=>∃a vs,v = .ref a/\SqT K F a vs/\Xb1 K F ds vs
 | .lst ds,v=>∃a vs,v = .ref a/\SqL K F a vs/\Xb1 K F ds vs
 | .dic,v=>∃a,v = .ref a/\F a=some (.ext (Xuq a (.type "dict")))
 | .exc c,v=>∃a C,v = .ref a/\nsIn K mainGlobals c=some (some (.ref C))/\F a=some (.ext (Xuq a (.ref C)))
 | .obj c ns ds,v=>∃a C dx vs,v = .ref a/\nsIn K mainGlobals c=some (some (.ref C))/\F a=some (.ins C dx (ns.zip vs))/\ds.length<=ns.length/\Xb1 K F ds vs
def Xb1 (K:Frag)(F:Hp):List D->List V->Prop
 | [],vs=>vs=[]
 |d::ds,vs=>∃v r,vs=v::r/\Rep K F d v/\Xb1 K F ds r
end
section
variable {K:Frag}{F F' H H':Hp}
mutual
theorem Rep.mono (s:Xbj F F'): ∀{d:D} {v:V},Rep K F d v->Rep K F' d v
 | .int _,_,h=>h
 | .bl _,_,h=>h
 | .non,_,h=>h
 | .str _,_,h=>h
 | .ty _,_,h=>h
 | .fn _,_,h=>h
 | .tup ds,v,h=>by
  obtain⟨a,vs,e,h1,h2⟩:=h
  exact⟨a,vs,e,s.seqT h1,Xb1.mono s h2⟩
 | .lst ds,v,h=>by
  obtain⟨a,vs,e,h1,h2⟩:=h
  exact⟨a,vs,e,s.seq h1,Xb1.mono s h2⟩
 | .dic,v,h=>by
  obtain⟨a,e,h1⟩:=h
  exact⟨a,e,s _ _ h1⟩
 | .exc _,v,h=>by
  obtain⟨a,C,e,h0,h1⟩:=h
  exact⟨a,C,e,h0,s _ _ h1⟩
 | .obj _ _ ds,v,h=>by
  obtain⟨a,C,dx,vs,e,h0,h1,hl,h2⟩:=h
  exact⟨a,C,dx,vs,e,h0,s _ _ h1,hl,Xb1.mono s h2⟩
theorem Xb1.mono (s:Xbj F F'): ∀{ds:List D} {vs:List V},Xb1 K F ds vs->Xb1 K F' ds vs
 | [],_,h=>h
 |d::ds,vs,h=>by
  obtain⟨v,r,e,h1,h2⟩:=h
  exact⟨v,r,e,Rep.mono s h1,Xb1.mono s h2⟩
end
theorem Xb1.length:∀{ds:List D} {vs:List V},Xb1 K F ds vs->ds.length=vs.length
 | [],_,h=>by cases h;rfl
 |d::ds,vs,h=>by
  obtain⟨v,r,rfl,h1,h2⟩:=h
  simp[Xb1.length h2]
theorem Xb1.get:∀{ds:List D} {vs:List V} {i:Nat} {d:D},Xb1 K F ds vs->ds[i]?=some d->∃v,vs[i]?=some v/\Rep K F d v
 | [],_,_,_,_,e=>by simp at e
 |d::ds,vs,i,d',h,e=>by
  obtain⟨v,r,rfl,h1,h2⟩:=h
  cases i with
  |zero=>simp at e;subst e;exact⟨v,rfl,h1⟩
  |succ i=>simpa using Xb1.get h2 e
theorem Xb1.get':∀{ds:List D} {vs:List V} {i:Nat} {v:V},Xb1 K F ds vs->vs[i]?=some v->∃d,ds[i]?=some d/\Rep K F d v:=λ{ds vs i v} h e=>by
 have hl:=h.length
 have hi:=(List.getElem?_eq_some_iff.mp e).1
 obtain⟨v',e',r⟩:=h.get (getElem?_eq_getElem (i:=i) (by lia))
 rw[e]at e';cases e'
 exact⟨_,getElem?_eq_getElem (by lia),r⟩
theorem Xb1.append:∀{ds es:List D} {vs us:List V},Xb1 K F ds vs->Xb1 K F es us->Xb1 K F (ds++es) (vs++us)
 | [],_,_,_,h,g=>by cases h;exact g
 |d::ds,_,_,_,h,g=>by
  obtain⟨v,r,rfl,h1,h2⟩:=h
  exact⟨v,r++_,rfl,h1,Xb1.append h2 g⟩
theorem Xb1.take:∀{ds:List D} {vs:List V} (n:Nat),Xb1 K F ds vs->Xb1 K F (ds.take n) (vs.take n)
 | [],_,n,h=>by cases h;simp[Xb1]
 |d::ds,_,0,h=>by simp[Xb1]
 |d::ds,_,n+1,h=>by
  obtain⟨v,r,rfl,h1,h2⟩:=h
  exact⟨v,r.take n,rfl,h1,Xb1.take n h2⟩
theorem Xb1.drop:∀{ds:List D} {vs:List V} (n:Nat),Xb1 K F ds vs->Xb1 K F (ds.drop n) (vs.drop n)
 | [],_,n,h=>by cases h;simp[Xb1]
 |d::ds,_,0,h=>h
 |d::ds,_,n+1,h=>by
  obtain⟨v,r,rfl,h1,h2⟩:=h
  simpa using Xb1.drop n h2
theorem Xb1.of:∀{ds:List D} {vs:List V},ds.length=vs.length->(∀(i:Nat) d v,ds[i]?=some d->vs[i]?=some v->Rep K F d v)->Xb1 K F ds vs
 | [],[],_,_=>rfl
 |d::ds,v::vs,e,h=>⟨v,vs,rfl,h 0 d v rfl rfl,Xb1.of (by simpa using e) λi d' v' e1 e2=>h (i+1) d' v' e1 e2⟩
 | [],_::_,e,_=>by simp at e
 |_::_,[],e,_=>by simp at e
theorem Xb1.reverse (h:Xb1 K F ds vs): Xb1 K F ds.reverse vs.reverse:=by
 have hl:=h.length
 refine Xb1.of (by simp[hl]) λi d v e1 e2=>?_
 have h1:=(List.getElem?_eq_some_iff.mp e1).1
 rw[length_reverse]at h1
 rw[getElem?_reverse (by omega)]at e1
 rw[getElem?_reverse (by lia),<- hl]at e2
 obtain⟨v',e',r⟩:=h.get e1
 rw[e2]at e';cases e';exact r
theorem Xkd:∀{xs:List Int} {vs:List V},Xb1 K F (xs.map D.int) vs↔vs=xs.map V.int
 | [],vs=>Iff.rfl
 |x :: xs,vs=>by
  constructor
  .rintro ⟨v,r,rfl,h1,h2⟩
   have h1':v=V.int x:=h1
   rw[h1',Xkd.mp h2];rfl
  .rintro rfl
   exact⟨_,_,rfl,rfl,Xkd.mpr rfl⟩
end
def imm:HO->Bool
 | .tup _=>true
 | .frz _ _=>true
 |_=>false
inductive OV where
 |fz (d:D)
 |nl (ts:List OV)
 |rt (a:Addr) (ts:List OV)
 |fx (v:V) (d:D)
 |ob (o:Option Addr) (c:Str) (ns:List Str) (ts:List OV)
mutual
def OV.val:OV->D
 | .fz d=>d
 | .nl ts=>.lst (OV.vals ts)
 | .rt _ ts=>.lst (OV.vals ts)
 | .fx _ d=>d
 | .ob _ c ns ts=>.obj c ns (OV.vals ts)
def OV.vals:List OV->List D
 | []=>[]
 |t::ts=>t.val::OV.vals ts
end
theorem OV.vals_eq:∀(ts:List OV),OV.vals ts=ts.map OV.val
 | []=>by simp[OV.vals]
 |t::ts=>by simp[OV.vals,OV.vals_eq ts]
mutual
def Xob (K:Frag)(F H:Hp):OV->V->List Addr->Prop
 | .fz d,v,A=>A=[]/\Rep K F d v
 | .nl ts,v,A=>∃a vs B,v = .ref a/\A=a::B/\H a=some (.lst vs)/\Xa3 K F H ts vs B
 | .rt a ts,v,A=>∃vs B,v = .ref a/\A=a::B/\H a=some (.lst vs)/\Xa3 K F H ts vs B
 | .fx u d,v,A=>A=[]/\v=u/\Rep K F d v
 | .ob o c ns ts,v,A=>∃a C dx vs B,v = .ref a/\A=a::dx::B/\nsIn K mainGlobals c=some (some (.ref C))/\(∀a',o=some a'->a=a')/\H a=some (.ins C dx (ns.zip vs))/\H dx=some (.own a)/\ts.length<=ns.length/\Xa3 K F H ts vs B
def Xa3 (K:Frag)(F H:Hp):List OV->List V->List Addr->Prop
 | [],vs,A=>vs=[]/\A=[]
 |t::ts,vs,A=>∃v r B C,vs=v::r/\A=B++C/\Xob K F H t v B/\Xa3 K F H ts r C
end
section
variable {K:Frag}{F F' H H':Hp}
mutual
theorem Xob.frame (s:Xbj F F'): ∀{t:OV} {v:V} {A:List Addr},(∀a∈A,∀xs,H a=some xs->H' a=some xs)->Xob K F H t v A->Xob K F' H' t v A
 | .fz d,v,A,_,h=>⟨h.1,h.2.mono s⟩
 | .nl ts,v,A,hk,h=>by
  obtain⟨a,vs,B,e,rfl,h1,h2⟩:=h
  exact⟨a,vs,B,e,rfl,hk a mem_cons_self _ h1,Xa3.frame s (λb hb=>hk b (mem_cons_of_mem _ hb)) h2⟩
 | .rt a ts,v,A,hk,h=>by
  obtain⟨vs,B,e,rfl,h1,h2⟩:=h
  exact⟨vs,B,e,rfl,hk a mem_cons_self _ h1,Xa3.frame s (λb hb=>hk b (mem_cons_of_mem _ hb)) h2⟩
 | .fx u d,v,A,_,h=>⟨h.1,h.2.1,h.2.2.mono s⟩
 | .ob o c ns ts,v,A,hk,h=>by
  obtain⟨a,C,dx,vs,B,e,rfl,h0,ho,h1,h2,hl,h3⟩:=h
  exact⟨a,C,dx,vs,B,e,rfl,h0,ho,hk a (by simp) _ h1,hk dx (by simp) _ h2,hl,Xa3.frame s (λb hb=>hk b (by simp[hb])) h3⟩
theorem Xa3.frame (s:Xbj F F'): ∀{ts:List OV} {vs:List V} {A:List Addr},(∀a∈A,∀xs,H a=some xs->H' a=some xs)->Xa3 K F H ts vs A->Xa3 K F' H' ts vs A
 | [],vs,A,_,h=>h
 |t::ts,vs,A,hk,h=>by
  obtain⟨v,r,B,C,e,rfl,h1,h2⟩:=h
  exact⟨v,r,B,C,e,rfl,Xob.frame s (λb hb=>hk b (mem_append_left _ hb)) h1,Xa3.frame s (λb hb=>hk b (mem_append_right _ hb)) h2⟩
end
mutual
theorem Xob.isl:∀{t:OV} {v:V} {A:List Addr},Xob K F H t v A->∀a∈A,∃xs,H a=some xs/\imm xs=false
 | .fz d,v,A,h,a,ha=>by rw[h.1]at ha;cases ha
 | .nl ts,v,A,h,a,ha=>by
  obtain⟨b,vs,B,e,rfl,h1,h2⟩:=h
  rcases mem_cons.mp ha with rfl |z
  .exact ⟨_,h1,rfl⟩
  .exact Xa3.isl h2 a z
 | .rt b ts,v,A,h,a,ha=>by
  obtain⟨vs,B,e,rfl,h1,h2⟩:=h
  rcases mem_cons.mp ha with rfl |z
  .exact ⟨_,h1,rfl⟩
  .exact Xa3.isl h2 a z
 | .fx u d,v,A,h,a,ha=>by rw[h.1]at ha;cases ha
 | .ob o c ns ts,v,A,h,a,ha=>by
  obtain⟨b,C,dx,vs,B,e,rfl,h0,ho,h1,h2,hl,h3⟩:=h
  rcases mem_cons.mp ha with rfl |z
  .exact ⟨_,h1,rfl⟩
  .rcases mem_cons.mp z with rfl |z
   .exact ⟨_,h2,rfl⟩
   .exact Xa3.isl h3 a z
theorem Xa3.isl:∀{ts:List OV} {vs:List V} {A:List Addr},Xa3 K F H ts vs A->∀a∈A,∃xs,H a=some xs/\imm xs=false
 | [],vs,A,h,a,ha=>by rw[h.2]at ha;cases ha
 |t::ts,vs,A,h,a,ha=>by
  obtain⟨v,r,B,C,e,rfl,h1,h2⟩:=h
  rcases mem_append.mp ha with z |z
  .exact Xob.isl h1 a z
  .exact Xa3.isl h2 a z
end
mutual
theorem Xob.rep (s:Xbj F F'): ∀{t:OV} {v:V} {A:List Addr},(∀a∈A,∀xs,H a=some xs->F' a=some xs)->Xob K F H t v A->Rep K F' t.val v
 | .fz d,v,A,_,h=>h.2.mono s
 | .nl ts,v,A,hk,h=>by
  obtain⟨a,vs,B,e,rfl,h1,h2⟩:=h
  exact⟨a,vs,e,SqL.of (hk a mem_cons_self _ h1),Xa3.rep s (λb hb=>hk b (mem_cons_of_mem _ hb)) h2⟩
 | .fx u d,v,A,_,h=>h.2.2.mono s
 | .ob o c ns ts,v,A,hk,h=>by
  obtain⟨a,C,dx,vs,B,e,rfl,h0,ho,h1,h2,hl,h3⟩:=h
  exact⟨a,C,dx,vs,e,h0,hk a (by simp) _ h1,by rw[OV.vals_eq,length_map];exact hl,Xa3.rep s (λb hb=>hk b (by simp[hb])) h3⟩
 | .rt a ts,v,A,hk,h=>by
  obtain⟨vs,B,e,rfl,h1,h2⟩:=h
  exact⟨a,vs,e,SqL.of (hk a mem_cons_self _ h1),Xa3.rep s (λb hb=>hk b (mem_cons_of_mem _ hb)) h2⟩
theorem Xa3.rep (s:Xbj F F'):∀{ts:List OV} {vs:List V} {A:List Addr},(∀a∈A,∀xs,H a=some xs->F' a=some xs)->Xa3 K F H ts vs A->Xb1 K F' (OV.vals ts) vs
 | [],vs,A,_,h=>h.1
 |t::ts,vs,A,hk,h=>by
  obtain⟨v,r,B,C,e,rfl,h1,h2⟩:=h
  exact⟨v,r,e,Xob.rep s (λb hb=>hk b (mem_append_left _ hb)) h1,Xa3.rep s (λb hb=>hk b (mem_append_right _ hb)) h2⟩
end
theorem Xa3.length:∀{ts:List OV} {vs:List V} {A:List Addr},Xa3 K F H ts vs A->ts.length=vs.length
 | [],_,_,h=>by rw[h.1];rfl
 |t::ts,_,_,h=>by
  obtain⟨v,r,B,C,rfl,rfl,h1,h2⟩:=h
  simp[Xa3.length h2]
theorem Xa3.append:∀{ts us:List OV} {vs ws:List V} {A B:List Addr},Xa3 K F H ts vs A->Xa3 K F H us ws B->Xa3 K F H (ts++us) (vs++ws) (A++B)
 | [],_,_,_,_,_,h,g=>by obtain⟨rfl,rfl⟩:=h;exact g
 |t::ts,_,_,_,_,_,h,g=>by
  obtain⟨v,r,B,C,rfl,rfl,h1,h2⟩:=h
  exact⟨v,_,B,_,rfl,by rw[append_assoc],h1,Xa3.append h2 g⟩
theorem Xa3.one (h:Xob K F H t v A): Xa3 K F H [t] [v] A:=⟨v,[],A,[],rfl,by simp,h,rfl,rfl⟩
theorem Xa3.focus:∀{ts:List OV} {vs:List V} {A:List Addr} {i:Nat} {t:OV},Xa3 K F H ts vs A->ts[i]?=some t->∃v A1 B A2,vs[i]?=some v/\A=A1++(B++A2)/\Xob K F H t v B/\
  ∀F' H' t' v' B',Xbj F F'->(∀a∈A1++A2,∀xs,H a=some xs->H' a=some xs)->Xob K F' H' t' v' B'->Xa3 K F' H' (ts.set i t') (vs.set i v') (A1++(B'++A2))
 | [],_,_,_,_,_,e=>by simp at e
 |t::ts,_,_,0,t0,h,e=>by
  obtain⟨v,r,B,C,rfl,rfl,h1,h2⟩:=h
  simp at e
  subst e
  refine⟨v,[],B,C,rfl,rfl,h1,λF' H' t' v' B' s hk h'=>?_⟩
  exact⟨v',r,B',C,rfl,rfl,h',Xa3.frame s (λa ha=>hk a ha) h2⟩
 |t::ts,_,_,i+1,t0,h,e=>by
  obtain⟨v,r,B,C,rfl,rfl,h1,h2⟩:=h
  obtain⟨v0,A1,B0,A2,e1,rfl,h3,h4⟩:=Xa3.focus h2 e
  refine⟨v0,B++A1,B0,A2,e1,by simp,h3,λF' H' t' v' B' s hk h'=>?_⟩
  refine⟨v,r.set i v',B,A1++(B'++A2),rfl,by simp,Xob.frame s (λa ha=>hk a (by simp[ha])) h1,h4 F' H' t' v' B' s (λa ha=>hk a ?_) h'⟩
  rcases mem_append.mp ha with z |z<;>simp[z]
theorem Xa3.fzs:∀{ds:List D} {vs:List V},Xb1 K F ds vs->Xa3 K F H (ds.map OV.fz) vs []
 | [],_,h=>⟨h,rfl⟩
 |d::ds,_,h=>by
  obtain⟨v,r,rfl,h1,h2⟩:=h
  exact⟨v,r,[],[],rfl,rfl,⟨rfl,h1⟩,Xa3.fzs h2⟩
end
structure Ext (F H F' H':Hp):Prop where
 ff:Xbj F F'
 hh:Xbj H H'
 fh:Xbj F' H'
 no:∀a o,F a=none->H a=some o->imm o=false->F' a=none
theorem Ext.refl (s:Xbj F H): Ext F H F H:=⟨Xbj.refl _,Xbj.refl _,s,λ_ _ h _ _=>h⟩
theorem Ext.trans (a:Ext F H F' H')(b:Ext F' H' F'' H''): Ext F H F'' H'':=
 ⟨a.ff.trans b.ff,a.hh.trans b.hh,b.fh,λx o h1 h2 h3=>b.no x o (a.no x o h1 h2 h3) (a.hh _ _ h2) h3⟩
def Xlg (K:Frag)(H F' H':Hp)(r:OV)(v:V):Prop:=∃A,Xob K F' H' r v A/\A.Nodup/\∀a∈A,H a=none/\F' a=none
theorem Xlg.fz {K:Frag}{H F' H':Hp}{d:D}{v:V}(h:Rep K F' d v):Xlg K H F' H' (.fz d) v:=⟨[],⟨rfl,h⟩,nodup_nil,λ_ h=>by cases h⟩
theorem Xlg.old {K:Frag}{H0 H F' H':Hp}{r:OV}{v:V}(s:Xbj H0 H)(h:Xlg K H F' H' r v):Xlg K H0 F' H' r v:=by
 obtain⟨A,h1,h2,h3⟩:=h
 exact⟨A,h1,h2,λa ha=>⟨s.free (h3 a ha).1,(h3 a ha).2⟩⟩
theorem Xlg.frz {K:Frag}{F H F' H':Hp}{r:OV}{v:V}(x:Ext F H F' H')(h:Xlg K H F' H' r v):∃F'',Ext F H F'' H'/\Xbj F' F''/\Rep K F'' r.val v:=by
 obtain⟨A,h1,h2,h3⟩:=h
 refine⟨λa=>if a∈A then H' a else F' a,⟨λb o e=>?_,x.hh,λb o e=>?_,λa o e1 e2 e3=>?_⟩,λb o e=>?_,?_⟩
 .have hb:b∉A:=λz=>by rw[(x.ff.free (h3 b z).2)]at e;cases e
  rw[if_neg hb];exact x.ff _ _ e
 .split at e
  .exact e
  .exact x.fh _ _ e
 .have ha:a∉A:=λz=>by rw[(h3 a z).1]at e2;cases e2
  rw[if_neg ha];exact x.no a o e1 e2 e3
 .have hb:b∉A:=λz=>by rw[(h3 b z).2]at e;cases e
  try dsimp only
  rw[if_neg hb];exact e
 .refine h1.rep (λb o e=>?_) λa ha xs e=>?_
  .have hb:b∉A:=λz=>by rw[(h3 b z).2]at e;cases e
   rw[if_neg hb];exact e
  .rw [if_pos ha];exact e
inductive Sl where
 |own (t:OV)
 |bw (d:D)
abbrev Dst:=List (Option Sl)
structure ER (K:Frag) (F0 H0 F H:Hp) (Y:St) (δ:Dst) (A:Nat->List Addr):Prop where
 len:Y.length=δ.length
 ext:Ext F0 H0 F H
 own:∀(i:Nat) (t:OV),δ[i]?=some (some (.own t))->∃v,Y[i]?=some (some v)/\Xob K F H t v (A i)
 bw:∀(i:Nat) (d:D),δ[i]?=some (some (.bw d))->∃v,Y[i]?=some (some v)/\Rep K H0 d v
 nod:∀i,(A i).Nodup
 dis:∀i j a,i≠j->a∈A i->a∉A j
 new:∀i a,a∈A i->F a=none/\H0 a=none/\∃xs,H a=some xs/\imm xs=false
def Xek (K:Frag)(F0 H0 F H:Hp)(Y:St)(δ:Dst):Prop:=∃A,ER K F0 H0 F H Y δ A
section
variable {K:Frag}{F0 H0 F H F' H':Hp}{Y:St}{δ:Dst}{A:Nat->List Addr}
theorem ER.on (e:ER K F0 H0 F H Y δ A)(x:Ext F H F' H'): ER K F0 H0 F' H' Y δ A where
 len:=e.len
 ext:=e.ext.trans x
 own:=λi t h=>by
  obtain⟨v,h1,h2⟩:=e.own i t h
  exact⟨v,h1,h2.frame x.ff λa _ xs z=>x.hh _ _ z⟩
 bw:=e.bw
 nod:=e.nod
 dis:=e.dis
 new:=λi a ha=>by
  obtain⟨h1,h2,xs,h3,h4⟩:=e.new i a ha
  exact⟨x.no a _ h1 h3 h4,h2,xs,x.hh _ _ h3,h4⟩
theorem Xek.on (e:Xek K F0 H0 F H Y δ)(x:Ext F H F' H'): Xek K F0 H0 F' H' Y δ:=let⟨A,e⟩:=e;⟨A,e.on x⟩
theorem Xek.ext (e:Xek K F0 H0 F H Y δ): Ext F0 H0 F H:=let⟨_,e⟩:=e;e.ext
theorem Xek.put (e:Xek K F0 H0 F H Y δ)(x:Ext F H F' H')(i:Nat)(h:Xlg K H F' H' r v): Xek K F0 H0 F' H' (Y.set i (some v)) (δ.set i (some (.own r))):=by
 obtain⟨A,e⟩:=e
 obtain⟨B,b1,b2,b3⟩:=h
 have e':=e.on x
 refine⟨λj=>if j=i then B else A j,by simp[e.len],e'.ext,λj t hj=>?_,λj d hj=>?_,λj=>?_,λj k a hjk h1 h2=>?_,λj a ha=>?_⟩
 .by_cases z:j=i
  .subst z
   rw[if_pos rfl]
   have hl:j<δ.length:=by
    have:=(List.getElem?_eq_some_iff.mp hj).1
    rwa[length_set]at this
   rw[getElem?_set_self hl]at hj
   cases hj
   exact⟨v,getElem?_set_self (by rw[e.len];exact hl),b1⟩
  .rw [if_neg z]
   rw[getElem?_set_ne (Ne.symm z)]at hj ⊢
   exact e'.own j t hj
 .by_cases z:j=i
  .subst z
   have hl:j<δ.length:=by
    have:=(List.getElem?_eq_some_iff.mp hj).1
    rwa[length_set]at this
   rw[getElem?_set_self hl]at hj
   cases hj
  .rw [getElem?_set_ne (Ne.symm z)]at hj ⊢
   exact e'.bw j d hj
 .split
  .exact b2
  .exact e.nod j
 .have key:∀k,a∈B->a∈A k->False:=λk z1 z2=>by
   obtain⟨_,_,xs,q,_⟩:=e.new k a z2
   rw[(b3 a z1).1]at q;cases q
  split at h1
  .split at h2
   .lia
   .exact key _ h1 h2
  .split at h2
   .exact key _ h2 h1
   .exact e.dis j k a hjk h1 h2
 .split at ha
  .exact ⟨(b3 a ha).2,e.ext.hh.free (b3 a ha).1,b1.isl a ha⟩
  .exact e'.new j a ha
theorem ER.putFz (e:ER K F0 H0 F H Y δ A)(i:Nat)(h:Rep K F d v): ER K F0 H0 F H (Y.set i (some v)) (δ.set i (some (.own (.fz d)))) (λj=>if j=i then [] else A j):=by
 refine⟨by simp[e.len],e.ext,λj t hj=>?_,λj d hj=>?_,λj=>?_,λj k a hjk h1 h2=>?_,λj a ha=>?_⟩
 .by_cases z:j=i
  .subst z
   rw[if_pos rfl]
   have hl:j<δ.length:=by
    have:=(List.getElem?_eq_some_iff.mp hj).1
    rwa[length_set]at this
   rw[getElem?_set_self hl]at hj
   cases hj
   exact⟨v,getElem?_set_self (by rw[e.len];exact hl),rfl,h⟩
  .rw [if_neg z]
   rw[getElem?_set_ne (Ne.symm z)]at hj ⊢
   exact e.own j t hj
 .by_cases z:j=i
  .subst z
   have hl:j<δ.length:=by
    have:=(List.getElem?_eq_some_iff.mp hj).1
    rwa[length_set]at this
   rw[getElem?_set_self hl]at hj
   cases hj
  .rw [getElem?_set_ne (Ne.symm z)]at hj ⊢
   exact e.bw j d hj
 .split
  .exact nodup_nil
  .exact e.nod j
 .split at h1
  .cases h1
  .split at h2
   .cases h2
   .exact e.dis j k a hjk h1 h2
 .split at ha
  .cases ha
  .exact e.new j a ha
end
abbrev DE:=Dst->(D->Prop)->Prop
abbrev DO:=Dst->(OV->Prop)->Prop
abbrev DA:=Dst->(List D->Prop)->Prop
abbrev DAO:=Dst->(List OV->Prop)->Prop
abbrev DT:=Dst->(Bool->Prop)->Prop
structure DEnds where
 nx:Dst->Prop
 rt:OV->Prop
 bk:Dst->Prop:=λ_=>False
 ct:Dst->Prop:=λ_=>False
abbrev DS:=DEnds->Dst->Prop
section
variable (K:Frag)
def Xjx (t:TE)(E:DO):Prop:=∀F0 H0 F H Y δ P Q,Xek K F0 H0 F H Y δ->E δ P->(∀r v F' H',P r->Ext F H F' H'->Xlg K H F' H' r v->Q v H')->t Y H Q
def Xdi (t:TE)(E:DE):Prop:=∀F0 H0 F H Y δ P Q,Xek K F0 H0 F H Y δ->E δ P->(∀d v F' H',P d->Ext F H F' H'->Rep K F' d v->Q v H')->t Y H Q
def Xe6 (t:TE)(E:DE):Prop:=∀F0 H0 F H Y δ P Q,Xek K F0 H0 F H Y δ->E δ P->(∀d v F' H',P d->Ext F H F' H'->Rep K H' d v->Q v H')->t Y H Q
def Xuv (t:TT)(C:DT):Prop:=∀F0 H0 F H Y δ P Q,Xek K F0 H0 F H Y δ->C δ P->(∀b F' H',P b->Ext F H F' H'->Q b H')->t Y H Q
def Xjy (t:TA)(E:DA):Prop:=∀F0 H0 F H Y δ P Q,Xek K F0 H0 F H Y δ->E δ P->(∀ds vs F' H',P ds->Ext F H F' H'->Xb1 K F' ds vs->Q vs H')->t Y H Q
def Xoa (t:TA)(E:DA):Prop:=∀F0 H0 F H Y δ P Q,Xek K F0 H0 F H Y δ->E δ P->(∀ds vs F' H',P ds->Ext F H F' H'->Xb1 K H' ds vs->Q vs H')->t Y H Q
def Yog (H F' H':Hp)(rs:List OV)(vs:List V):Prop:=∃A,Xa3 K F' H' rs vs A/\A.Nodup/\∀a∈A,H a=none/\F' a=none
def Yd1 (t:TA)(E:DAO):Prop:=∀F0 H0 F H Y δ P Q,Xek K F0 H0 F H Y δ->E δ P->(∀rs vs F' H',P rs->Ext F H F' H'->Yog K H F' H' rs vs->Q vs H')->t Y H Q
structure Lk (F0 H0:Hp) (De:DEnds) (E:Ends):Prop where
 nx:∀F H Y δ,Xek K F0 H0 F H Y δ->De.nx δ->E.nx Y H
 bk:∀F H Y δ,Xek K F0 H0 F H Y δ->De.bk δ->E.bk Y H
 ct:∀F H Y δ,Xek K F0 H0 F H Y δ->De.ct δ->E.ct Y H
 rt:∀F H r v,Ext F0 H0 F H->Xlg K H0 F H r v->De.rt r->E.rt v H
def Xc3 (t:TS)(T:DS):Prop:=∀F0 H0 F H Y δ De E,Xek K F0 H0 F H Y δ->Lk K F0 H0 De E->T De δ->t E Y H
def Yjn (g:TG)(G:D->Dst->(Dst->Prop)->Prop):Prop:=∀F0 H0 F H Y δ A d v P Q,ER K F0 H0 F H Y δ A->Rep K F d v->G d δ P->(∀Y' δ' A',P δ'->ER K F0 H0 F H Y' δ' A'->(∀i a,a∈A' i->a∈A i)->Q Y' H)->g v Y H Q
def Yd0 (g:TGs)(G:List D->Dst->(Dst->Prop)->Prop):Prop:=∀F0 H0 F H Y δ A ds vs P Q,ER K F0 H0 F H Y δ A->Xb1 K F ds vs->G ds δ P->(∀Y' δ' A',P δ'->ER K F0 H0 F H Y' δ' A'->(∀i a,a∈A' i->a∈A i)->Q Y' H)->g vs Y H Q
end
section
variable {K:Frag}{t ta tb tc:TE}{E Ea Eb Ec:DE}
def dFz (E:DE):DO:=λδ P=>E δ λd=>P (.fz d)
def Yjs (E:DO):DE:=λδ P=>E δ λr=>P r.val
theorem Xap (h:Xdi K t E): Xe6 K t E:=λF0 H0 F H Y δ P Q e w q=>h F0 H0 F H Y δ P Q e w λd v F' H' p x r=>q d v F' H' p x (r.mono x.fh)
theorem Xa0 (h:Xdi K t E): Xjx K t (dFz E):=λF0 H0 F H Y δ P Q e w q=>h F0 H0 F H Y δ _ Q e w λd v F' H' p x r=>q _ v F' H' p x (.fz r)
theorem Xby {E:DO}(h:Xjx K t E):Xdi K t (Yjs E):=λF0 H0 F H Y δ P Q e w q=>h F0 H0 F H Y δ _ Q e w λd v F' H' p x r=>by
 obtain⟨F'',x',_,r'⟩:=r.frz x
 exact q _ v F'' H' p x' r'
mutual
def D.lf:D->Bool
 | .tup ds=>D.lfs ds
 | .lst _=>false
 | .dic=>false
 | .exc _=>false
 | .obj _ _ _=>false
 |_=>true
def D.lfs:List D->Bool
 | []=>true
 |d::ds=>d.lf && D.lfs ds
end
def Xun (F H:Hp):Hp:=λa=>match F a with
 |some o=>some o
 |none=>match H a with
  |some o=>if imm o=true then some o else none
  |none=>none
theorem Xff (s:Xbj F H): Ext F H (Xun F H) H:=by
 refine⟨λb o e=>?_,Xbj.refl _,λb o e=>?_,λa o e1 e2 e3=>?_⟩
 .unfold Xun;rw[e]
 .unfold Xun at e
  cases q:F b with
  |some o'=>rw[q]at e;rw[<- e];exact s _ _ q
  |none=>
   rw[q]at e
   cases q2:H b with
   |none=>rw[q2]at e;cases e
   |some o'=>
    rw[q2]at e
    dsimp only at e
    split at e
    .exact e
    .cases e
 .unfold Xun;rw[e1,e2]
  dsimp only
  rw[e3];rfl
theorem Xv0 (s:Xbj F H)(h:H a=some o)(hi:imm o=true): Xun F H a=some o:=by
 unfold Xun
 cases q:F a with
 |some o'=>rw[s _ _ q]at h;exact h
 |none=>rw[h];dsimp only;rw[hi];rfl
theorem Ya4 (s:Xbj F H)(h:SqT K H a xs): SqT K (Xun F H) a xs:=by
 rcases h with (h | ⟨o,h⟩) |h
 .exact .inl (.inl (Xv0 s h rfl))
 .exact .inl (.inr ⟨o,Xv0 s h rfl⟩)
 .exact .inr h
mutual
theorem Rep.lf (s:Xbj F H): ∀{d:D} {v:V},Rep K H d v->d.lf=true->Rep K (Xun F H) d v
 | .int _,_,h,_=>h
 | .bl _,_,h,_=>h
 | .non,_,h,_=>h
 | .str _,_,h,_=>h
 | .ty _,_,h,_=>h
 | .fn _,_,h,_=>h
 | .tup ds,v,h,z=>by
  obtain⟨a,vs,e,h1,h2⟩:=h
  exact⟨a,vs,e,Ya4 s h1,Xb1.lf s h2 (by simpa[D.lf] using z)⟩
 | .lst ds,v,h,z=>by simp[D.lf]at z
 | .dic,v,h,z=>by simp[D.lf]at z
 | .exc _,v,h,z=>by simp[D.lf]at z
 | .obj _ _ _,v,h,z=>by simp[D.lf]at z
theorem Xb1.lf (s:Xbj F H): ∀{ds:List D} {vs:List V},Xb1 K H ds vs->D.lfs ds=true->Xb1 K (Xun F H) ds vs
 | [],_,h,_=>h
 |d::ds,vs,h,z=>by
  obtain⟨v,r,e,h1,h2⟩:=h
  simp[D.lfs]at z
  exact⟨v,r,e,Rep.lf s h1 z.1,Xb1.lf s h2 z.2⟩
end
theorem D.lfs_eq:∀(ds:List D),D.lfs ds=ds.all D.lf
 | []=>rfl
 |d::ds=>by simp[D.lfs,D.lfs_eq ds]
def dLf (E:DE):DE:=λδ P=>E δ λd=>d.lf=true/\P d
theorem Yco (h:Xe6 K t E): Xdi K t (dLf E):=λF0 H0 F H Y δ P Q e w q=>h F0 H0 F H Y δ _ Q e w λd v F' H' p x r=>
 q d v _ H' p.2 (x.trans (Xff x.fh)) (Rep.lf x.fh r p.1)
def dV (i:Nat):DE:=λδ P=>match δ[i]? with
 |some (some (.own (.fz d)))=>P d
 |some (some (.own (.fx _ d)))=>P d
 |_=>False
def dB (i:Nat):DE:=λδ P=>match δ[i]? with
 |some (some (.own t))=>P t.val
 |some (some (.bw d))=>P d
 |_=>False
theorem Xai:Xdi K (Xod i) (dV i):=λF0 H0 F H Y δ P Q ⟨A,e⟩ w q=>by
 unfold dV at w
 split at w
 .rename_i d hd
  obtain⟨v,h1,h2⟩:=e.own i _ hd
  exact⟨v,h1,q d v F H w (Ext.refl e.ext.fh) h2.2⟩
 .rename_i u d hd
  obtain⟨v,h1,h2⟩:=e.own i _ hd
  exact⟨v,h1,q d v F H w (Ext.refl e.ext.fh) h2.2.2⟩
 .exact w.elim
theorem Xad:Xe6 K (Xod i) (dB i):=λF0 H0 F H Y δ P Q ⟨A,e⟩ w q=>by
 unfold dB at w
 split at w
 .rename_i t hd
  obtain⟨v,h1,h2⟩:=e.own i _ hd
  exact⟨v,h1,q _ v F H w (Ext.refl e.ext.fh) (h2.rep e.ext.fh λa _ xs z=>z)⟩
 .rename_i d hd
  obtain⟨v,h1,h2⟩:=e.bw i _ hd
  exact⟨v,h1,q _ v F H w (Ext.refl e.ext.fh) (h2.mono e.ext.hh)⟩
 .exact w.elim
def dC (d:D):DE:=λ_ P=>P d
theorem Ykr (h:∀F,Rep K F d v): Xdi K (tC v) (dC d):=λF0 H0 F H Y δ P Q e w q=>q d v F H w (Ext.refl e.ext.fh) (h _)
theorem Xah:Xdi K (tC (.int i)) (dC (.int i)):=Ykr λ_=>rfl
theorem Xl2:Xdi K (tC (.bl b)) (dC (.bl b)):=Ykr λ_=>rfl
theorem Xy5:Xdi K (tC .non) (dC .non):=Ykr λ_=>rfl
theorem Xas:Xdi K (tC (.str x)) (dC (.str x)):=Ykr λ_=>rfl
theorem Xp9:Xdi K (tC (.ty n)) (dC (.ty n)):=Ykr λ_=>rfl
abbrev DR2:=D->D->(D->Prop)->Prop
def OpS (K:Frag)(R:R2)(r:DR2):Prop:=∀F H x y v u P Q,Xbj F H->Rep K H x v->Rep K H y u->r x y P->(∀d w F' H',P d->Ext F H F' H'->Rep K F' d w->Q w H')->R v u H Q
def OpB (K:Frag)(R:R2)(r:DR2):Prop:=∀H x y v u P Q,Rep K H x v->Rep K H y u->r x y P->(∀d w,P d->Rep K H d w->Q w H)->R v u H Q
def dOp (r:DR2)(Ea Eb:DE):DE:=λδ P=>Ea δ λx=>Eb δ λy=>r x y P
theorem Xaq (h:OpS K R r)(ha:Xe6 K ta Ea)(hb:Xe6 K tb Eb): Xdi K (tOp R ta tb) (dOp r Ea Eb):=λF0 H0 F H Y δ P Q e w q=>
 ha F0 H0 F H Y δ _ _ e w λx v F1 H1 w1 x1 r1=>hb F0 H0 F1 H1 Y δ _ _ (e.on x1) w1 λy u F2 H2 w2 x2 r2=>
  h F2 H2 x y v u P _ x2.fh (r1.mono x2.hh) r2 w2 λd w F' H' p x' r'=>q d w F' H' p (x1.trans (x2.trans x')) r'
theorem Xca (h:OpB K R r)(ha:Xe6 K ta Ea)(hb:Xe6 K tb Eb): Xe6 K (tOp R ta tb) (dOp r Ea Eb):=λF0 H0 F H Y δ P Q e w q=>
 ha F0 H0 F H Y δ _ _ e w λx v F1 H1 w1 x1 r1=>hb F0 H0 F1 H1 Y δ _ _ (e.on x1) w1 λy u F2 H2 w2 x2 r2=>
  h H2 x y v u P _ (r1.mono x2.hh) r2 w2 λd w p r'=>q d w F2 H2 p (x1.trans x2) r'
def rI2 (g:Int->Int->D):DR2:=λx y P=>match x,y with
 | .int i,.int j=>P (g i j)
 |_,_=>False
def Yk0 (C:Int->Int->Prop)(g:Int->Int->D):DR2:=λx y P=>match x,y with
 | .int i,.int j=>C i j/\P (g i j)
 |_,_=>False
theorem Xzf {g:Int->Int->D}{P:D->Prop}(h:rI2 g x y P): ∃i j,x = .int i/\y = .int j/\P (g i j):=by
 unfold rI2 at h
 split at h
 .exact ⟨_,_,rfl,rfl,h⟩
 .exact h.elim
theorem Yct {C:Int->Int->Prop}{g:Int->Int->D}{P:D->Prop}(h:Yk0 C g x y P): ∃i j,x = .int i/\y = .int j/\C i j/\P (g i j):=by
 unfold Yk0 at h
 split at h
 .exact ⟨_,_,rfl,rfl,h.1,h.2⟩
 .exact h.elim
theorem Yll {g:Int->Int->V}{g':Int->Int->D}(hg:∀F i j,Rep K F (g' i j) (g i j)): OpS K (rI0 g) (rI2 g'):=λF H x y v u P Q s rx ry w q=>by
 obtain⟨i,j,rfl,rfl,p⟩:=Xzf w
 exact⟨i,j,rx,ry,q _ _ F H p (Ext.refl s) (hg _ _ _)⟩
theorem Ypy {C:Int->Int->Prop}{g:Int->Int->V}{g':Int->Int->D}(hg:∀F i j,Rep K F (g' i j) (g i j)): OpS K (rI C g) (Yk0 C g'):=λF H x y v u P Q s rx ry w q=>by
 obtain⟨i,j,rfl,rfl,c,p⟩:=Yct w
 exact⟨i,j,rx,ry,c,q _ _ F H p (Ext.refl s) (hg _ _ _)⟩
theorem Xcl {g:Int->Int->Int}: OpS K (rI0 λi j=>.int (g i j)) (rI2 λi j=>.int (g i j)):=Yll λ_ _ _=>rfl
theorem Xc5 {C:Int->Int->Prop}{g:Int->Int->Int}: OpS K (rI C λi j=>.int (g i j)) (Yk0 C λi j=>.int (g i j)):=Ypy λ_ _ _=>rfl
theorem Xhf {g:Int->Int->Bool}: OpS K (rI0 λi j=>.bl (g i j)) (rI2 λi j=>.bl (g i j)):=Yll λ_ _ _=>rfl
def Yns:DR2:=λx y P=>match x,y with
 | .int i,.int j=>P (.bl (decide (i=j)))
 | .str i,.str j=>P (.bl (decide (i=j)))
 | .bl i,.bl j=>P (.bl (decide (i=j)))
 |_,_=>False
def Ynp:DR2:=λx y P=>match x,y with
 | .int i,.int j=>P (.bl (!decide (i=j)))
 | .str i,.str j=>P (.bl (!decide (i=j)))
 | .bl i,.bl j=>P (.bl (!decide (i=j)))
 |_,_=>False
theorem Yd5:decide (V.int i=V.int j)=decide (i=j):=by
 by_cases h:i=j
 .subst h;simp
 .rw [decide_eq_false h,decide_eq_false λz=>h (by injection z)]
theorem Yd4:decide (V.str i=V.str j)=decide (i=j):=by
 by_cases h:i=j
 .subst h;simp
 .rw [decide_eq_false h,decide_eq_false λz=>h (by injection z)]
theorem Yjy:decide (V.bl i=V.bl j)=decide (i=j):=by
 by_cases h:i=j
 .subst h;simp
 .rw [decide_eq_false h,decide_eq_false λz=>h (by injection z)]
theorem Xfm:OpS K rEq Yns:=λF H x y v u P Q s rx ry w q=>by
 unfold Yns at w
 split at w
 .cases rx;cases ry;exact⟨rfl,by rw[Yd5];exact q _ _ F H w (Ext.refl s) rfl⟩
 .cases rx;cases ry;exact⟨rfl,by rw[Yd4];exact q _ _ F H w (Ext.refl s) rfl⟩
 .cases rx;cases ry;exact⟨rfl,by rw[Yjy];exact q _ _ F H w (Ext.refl s) rfl⟩
 .exact w.elim
theorem Xud:OpS K rNe Ynp:=λF H x y v u P Q s rx ry w q=>by
 unfold Ynp at w
 split at w
 .cases rx;cases ry;exact⟨rfl,by rw[Yd5];exact q _ _ F H w (Ext.refl s) rfl⟩
 .cases rx;cases ry;exact⟨rfl,by rw[Yd4];exact q _ _ F H w (Ext.refl s) rfl⟩
 .cases rx;cases ry;exact⟨rfl,by rw[Yjy];exact q _ _ F H w (Ext.refl s) rfl⟩
 .exact w.elim
def D.isNon:D->Bool
 | .non=>true
 |_=>false
def Ynq:DR2:=λx y P=>match y with
 | .non=>P (.bl x.isNon)
 |_=>False
def Yhg:DR2:=λx y P=>match y with
 | .non=>P (.bl (!x.isNon))
 |_=>False
theorem Xs3:∀{x:D} {v:V},Rep K F x v->decide (v = .non)=x.isNon
 | .int _,_,h=>by rw[show _=V.int _ from h];rfl
 | .bl _,_,h=>by rw[show _=V.bl _ from h];rfl
 | .non,_,h=>by rw[show _=V.non from h];rfl
 | .str _,_,h=>by rw[show _=V.str _ from h];rfl
 | .ty _,_,h=>by rw[show _=V.ty _ from h];rfl
 | .fn _,_,h=>by obtain⟨f,rfl,_⟩:=h;rfl
 | .tup _,_,h=>by obtain⟨a,vs,rfl,_⟩:=h;rfl
 | .lst _,_,h=>by obtain⟨a,vs,rfl,_⟩:=h;rfl
 | .dic,_,h=>by obtain⟨a,rfl,_⟩:=h;rfl
 | .exc _,_,h=>by obtain⟨a,C,rfl,_⟩:=h;rfl
 | .obj _ _ _,_,h=>by obtain⟨a,C,dx,vs,rfl,_⟩:=h;rfl
theorem Ylj:OpS K (λx y H Q=>y = .non/\Q (.bl (decide (x = .non))) H) Ynq:=λF H x y v u P Q s rx ry w q=>by
 unfold Ynq at w
 split at w
 .refine ⟨ry,?_⟩
  rw[Xs3 rx]
  exact q _ _ F H w (Ext.refl s) rfl
 .exact w.elim
theorem Yh1:OpS K (λx y H Q=>y = .non/\Q (.bl (!decide (x = .non))) H) Yhg:=λF H x y v u P Q s rx ry w q=>by
 unfold Yhg at w
 split at w
 .refine ⟨ry,?_⟩
  rw[Xs3 rx]
  exact q _ _ F H w (Ext.refl s) rfl
 .exact w.elim
def dUn (r:D->(D->Prop)->Prop)(Ea:DE):DE:=λδ P=>Ea δ λx=>r x P
def rU1 (g:Int->D):D->(D->Prop)->Prop:=λx P=>match x with
 | .int i=>P (g i)
 |_=>False
theorem Xpi {g:Int->Int}(ha:Xe6 K ta Ea): Xdi K (tUn (rU λi=>.int (g i)) ta) (dUn (rU1 λi=>.int (g i)) Ea):=λF0 H0 F H Y δ P Q e w q=>
 ha F0 H0 F H Y δ _ _ e w λx v F1 H1 w1 x1 r1=>by
  unfold rU1 at w1
  split at w1
  .exact ⟨_,r1,q _ _ F1 H1 w1 x1 rfl⟩
  .exact w1.elim
def dTb (E:DE):DT:=λδ P=>E δ λd=>match d with
 | .bl b=>P b
 |_=>False
theorem Ykh (h:Xdi K t E): ∀(F0 H0 F H:Hp) (Y:St) (δ:Dst) (P:Bool->Prop) (Q:Bool->Hp->Prop),Xek K F0 H0 F H Y δ->dTb E δ P->(∀b F' H',P b->Ext F H F' H'->Q b H')->t Y H λx H'=>∃k,x = .bl k/\Q k H':=λF0 H0 F H Y δ P Q e w q=>
 h F0 H0 F H Y δ _ _ e w λd v F' H' p x r=>by
  split at p
  .exact ⟨_,r,q _ F' H' p x⟩
  .exact p.elim
theorem Xa9 (h:Xdi K t E): Xuv K (Yf2 t) (dTb E):=Ykh h
theorem Xoe (h:Xdi K t E): Xuv K (tB t) (dTb E):=Ykh h
section
variable {ua ub:TT}{Ca Cb:DT}
def Ypf (C:DT):DT:=λδ P=>C δ λb=>P (!b)
def Ypk (Ca Cb:DT):DT:=λδ P=>Ca δ λb=>if b=true then Cb δ P else P false
def dOr (Ca Cb:DT):DT:=λδ P=>Ca δ λb=>if b=true then P true else Cb δ P
theorem Xeu (h:Xuv K ua Ca): Xuv K (Yom ua) (Ypf Ca):=λF0 H0 F H Y δ P Q e w q=>h F0 H0 F H Y δ _ _ e w λb F' H' p x=>q _ F' H' p x
theorem Xyv (h:Xuv K ua Ca)(g:Xuv K ub Cb): Xuv K (Yoq ua ub) (Ypk Ca Cb):=λF0 H0 F H Y δ P Q e w q=>h F0 H0 F H Y δ _ _ e w λb F' H' p x=>by
 cases b with
 |true=>exact Yfc (g F0 H0 F' H' Y δ P Q (e.on x) p λb F2 H2 p2 x2=>q b F2 H2 p2 (x.trans x2))
 |false=>exact Yfd rfl (q _ F' H' p x)
theorem Xoo (h:Xuv K ua Ca)(g:Xuv K ub Cb): Xuv K (tOr ua ub) (dOr Ca Cb):=λF0 H0 F H Y δ P Q e w q=>h F0 H0 F H Y δ _ _ e w λb F' H' p x=>by
 cases b with
 |true=>exact Yfc (q _ F' H' p x)
 |false=>exact Yfd rfl (g F0 H0 F' H' Y δ P Q (e.on x) p λb F2 H2 p2 x2=>q b F2 H2 p2 (x.trans x2))
def dIf (C:DT)(Ea Eb:DE):DE:=λδ P=>C δ λb=>if b=true then Ea δ P else Eb δ P
theorem Ygz (h:Xuv K ua Ca)(ha:Xdi K ta Ea)(hb:Xdi K tb Eb): Xdi K (tIf ua ta tb) (dIf Ca Ea Eb):=λF0 H0 F H Y δ P Q e w q=>h F0 H0 F H Y δ _ _ e w λb F' H' p x=>by
 cases b with
 |true=>exact Yfc (ha F0 H0 F' H' Y δ P Q (e.on x) p λd v F2 H2 p2 x2 r=>q d v F2 H2 p2 (x.trans x2) r)
 |false=>exact Yfd rfl (hb F0 H0 F' H' Y δ P Q (e.on x) p λd v F2 H2 p2 x2 r=>q d v F2 H2 p2 (x.trans x2) r)
end
def Ymt (Ea Eb:DE):DE:=λδ P=>Ea δ λx=>match x with
 | .bl c=>if c=true then Eb δ P else P (.bl false)
 |_=>False
def Ymk (Ea:DE):DE:=λδ P=>Ea δ λx=>match x with
 | .bl c=>P (.bl (!c))
 |_=>False
theorem Xnf (ha:Xdi K ta Ea)(hb:Xdi K tb Eb): Xdi K (Yka ta tb) (Ymt Ea Eb):=λF0 H0 F H Y δ P Q e w q=>ha F0 H0 F H Y δ _ _ e w λd v F' H' p x r=>by
 split at p
 .rename_i c
  refine⟨c,r,?_⟩
  cases c with
  |true=>exact Yfc (hb F0 H0 F' H' Y δ P Q (e.on x) p λd v F2 H2 p2 x2 r=>q d v F2 H2 p2 (x.trans x2) r)
  |false=>exact Yfd rfl (q _ _ F' H' p x rfl)
 .exact p.elim
theorem Ygy (ha:Xdi K ta Ea): Xdi K (Yj5 ta) (Ymk Ea):=λF0 H0 F H Y δ P Q e w q=>ha F0 H0 F H Y δ _ _ e w λd v F' H' p x r=>by
 split at p
 .exact ⟨_,r,q _ _ F' H' p x rfl⟩
 .exact p.elim
def Yfo (r r':DR2)(Ea Eb Ec:DE):DE:=λδ P=>Ea δ λx=>Eb δ λy=>r x y λz=>match z with
 | .bl k=>if k=true then Ec δ λw=>r' y w P else P (.bl false)
 |_=>False
theorem Xve (h:OpS K R r)(h':OpS K R' r')(ha:Xe6 K ta Ea)(hb:Xe6 K tb Eb)(hc:Xe6 K tc Ec): Xdi K (Xyd R R' ta tb tc) (Yfo r r' Ea Eb Ec):=λF0 H0 F H Y δ P Q e w q=>
 ha F0 H0 F H Y δ _ _ e w λx v F1 H1 w1 x1 r1=>hb F0 H0 F1 H1 Y δ _ _ (e.on x1) w1 λy u F2 H2 w2 x2 r2=>
  h F2 H2 x y v u _ _ x2.fh (r1.mono x2.hh) r2 w2 λd w F3 H3 p x3 r3=>by
   have x13:=x1.trans (x2.trans x3)
   split at p
   .rename_i k
    refine⟨k,r3,?_⟩
    cases k with
    |true=>exact Yfc (hc F0 H0 F3 H3 Y δ _ _ (e.on x13) p λz w4 F4 H4 p4 x4 r4=>h' F4 H4 y z u w4 P Q x4.fh (r2.mono (x3.hh.trans x4.hh)) r4 p4 λd w F5 H5 p5 x5 r5=>q d w F5 H5 p5 (x13.trans (x4.trans x5)) r5)
    |false=>exact Yfd rfl (q _ _ F3 H3 p x13 rfl)
   .exact p.elim
section
variable {a:TA}{As:DA}
def Ymm:DA:=λ_ P=>P []
def Ybl (Ea:DE)(As:DA):DA:=λδ P=>Ea δ λd=>As δ λds=>P (d::ds)
theorem Xan:Xoa K Xoi Ymm:=λF0 H0 F H Y δ P Q e w q=>q [] [] F H w (Ext.refl e.ext.fh) rfl
theorem Xam:Xjy K Xoi Ymm:=λF0 H0 F H Y δ P Q e w q=>q [] [] F H w (Ext.refl e.ext.fh) rfl
theorem Xaf (ha:Xe6 K ta Ea)(hr:Xoa K a As): Xoa K (Xfr ta a) (Ybl Ea As):=λF0 H0 F H Y δ P Q e w q=>ha F0 H0 F H Y δ _ _ e w λd v F1 H1 w1 x1 r1=>
 hr F0 H0 F1 H1 Y δ _ _ (e.on x1) w1 λds vs F2 H2 w2 x2 r2=>q (d::ds) (v::vs) F2 H2 w2 (x1.trans x2) ⟨v,vs,rfl,r1.mono x2.hh,r2⟩
theorem Xab (ha:Xdi K ta Ea)(hr:Xjy K a As): Xjy K (Xfr ta a) (Ybl Ea As):=λF0 H0 F H Y δ P Q e w q=>ha F0 H0 F H Y δ _ _ e w λd v F1 H1 w1 x1 r1=>
 hr F0 H0 F1 H1 Y δ _ _ (e.on x1) w1 λds vs F2 H2 w2 x2 r2=>q (d::ds) (v::vs) F2 H2 w2 (x1.trans x2) ⟨v,vs,rfl,r1.mono x2.ff,r2⟩
def Yi6:DAO:=λ_ P=>P []
def Ybk (Ea:DO)(As:DAO):DAO:=λδ P=>Ea δ λd=>As δ λds=>P (d::ds)
theorem Xbn:Yd1 K Xoi Yi6:=λF0 H0 F H Y δ P Q e w q=>q [] [] F H w (Ext.refl e.ext.fh) ⟨[],⟨rfl,rfl⟩,nodup_nil,λ_ h=>by cases h⟩
theorem Xak (ha:Xjx K ta Eo)(hr:Yd1 K a Ao): Yd1 K (Xfr ta a) (Ybk Eo Ao):=λF0 H0 F H Y δ P Q e w q=>ha F0 H0 F H Y δ _ _ e w λd v F1 H1 w1 x1 r1=>
 hr F0 H0 F1 H1 Y δ _ _ (e.on x1) w1 λds vs F2 H2 w2 x2 r2=>q (d::ds) (v::vs) F2 H2 w2 (x1.trans x2) (by
  obtain⟨A,a1,a2,a3⟩:=r1
  obtain⟨B,b1,b2,b3⟩:=r2
  refine⟨A++B,⟨v,vs,A,B,rfl,rfl,a1.frame x2.ff λa _ xs e=>x2.hh _ _ e,b1⟩,nodup_append.mpr ⟨a2,b2,λx hx y hy z=>?_⟩,λz hz=>?_⟩
  .subst z
   obtain⟨xs,hxs,_⟩:=a1.isl _ hx
   rw[(b3 _ hy).1]at hxs;cases hxs
  .rcases mem_append.mp hz with h |h
   .obtain ⟨xs,hxs,hxi⟩:=a1.isl _ h
    exact⟨(a3 z h).1,x2.no z _ (a3 z h).2 hxs hxi⟩
   .exact ⟨x1.hh.free (b3 z h).1,(b3 z h).2⟩)
def Ypb (As:DA):DE:=λδ P=>As δ λds=>ds.length<=1000000/\P (.tup ds)
theorem Xd0 (h:n<=1000000): n<=sizeLine:=by rw[sizeLine_eq];lia
theorem Xwm (h:n<1000000): n<sizeLine:=by rw[sizeLine_eq];lia
theorem Ext.new (s:Xbj F H)(hp:H p=none)(hs:Xbj H H')(h:H' p=some o): Ext F H (upd F p o) H':=by
 refine⟨λb u e=>?_,hs,λb u e=>?_,λb u e1 e2 e3=>?_⟩
 .rw [Xbu λz=>by rw[z,s.free hp]at e;cases e];exact e
 .by_cases hb:b=p
  .subst hb;rw[Xay]at e;rw[<- e];exact h
  .rw [Xbu hb]at e;exact hs _ _ (s _ _ e)
 .rw [Xbu λz=>by rw[z,hp]at e2;cases e2];exact e1
theorem Xbj.upd' (h:F p=none): Xbj F (upd F p o):=Xbj.new h
theorem Xcp (h:Xjy K a As): Xdi K (Yj0 a) (Ypb As):=λF0 H0 F H Y δ P Q e w q=>h F0 H0 F H Y δ _ _ e w λds vs F1 H1 w1 x1 r1=>by
 have hl:=r1.length
 refine⟨Xd0 (by lia),λp H' hp hs he=>?_⟩
 exact q _ _ _ H' w1.2 (x1.trans (Ext.new x1.fh hp hs he)) ⟨p,vs,rfl,.inl (.inl Xay),r1.mono (Xbj.upd' (x1.fh.free hp))⟩
def Yn9 (As:DAO):DO:=λδ P=>As δ λts=>ts.length<=1000000/\P (.nl ts)
theorem Xb3 (h:Yd1 K a Ao): Xjx K (Yf4 a) (Yn9 Ao):=λF0 H0 F H Y δ P Q e w q=>h F0 H0 F H Y δ _ _ e w λts vs F1 H1 w1 x1 r1=>by
 obtain⟨A,a1,a2,a3⟩:=r1
 have hl:=a1.length
 refine⟨Xd0 (by lia),λp H' hp hs he=>?_⟩
 refine q _ _ F1 H' w1.2 (x1.trans ⟨Xbj.refl _,hs,x1.fh.trans hs,λ_ _ z _ _=>z⟩) ⟨p::A,⟨p,vs,A,rfl,rfl,he,a1.frame (Xbj.refl _) λb _ xs z=>hs _ _ z⟩,nodup_cons.mpr ⟨λz=>?_,a2⟩,λb hb=>?_⟩
 .obtain ⟨xs,z,_⟩:=a1.isl p z
  rw[hp]at z;cases z
 .rcases mem_cons.mp hb with rfl |hb
  .exact ⟨x1.hh.free hp,x1.fh.free hp⟩
  .exact a3 b hb
end
end
section
variable {K:Frag}{t ta tb tc:TE}{E Ea Eb Ec:DE}{a:TA}{As:DA}{Ao:DAO}
theorem Xb1.atI (h:Xb1 K F ds vs)(e:L2.atI ds i=some d): ∃v,L2.atI vs i=some v/\Rep K F d v:=by
 unfold L2.atI at e ⊢
 rw[h.length]at e
 cases q:ixN vs.length i with
 |none=>rw[q]at e;cases e
 |some j=>
  rw[q]at e
  exact h.get e
def ixL:DR2:=λx y P=>match x,y with
 | .lst ds,.int i=>∃d,atI ds i=some d/\P d
 |_,_=>False
def ixT:DR2:=λx y P=>match x,y with
 | .tup ds,.int i=>∃d,atI ds i=some d/\P d
 |_,_=>False
def ixS:DR2:=λx y P=>match x,y with
 | .str z,.int i=>z.length<=1000000/\∃c,atI z.cps.toList i=some c/\P (.str ⟨#[c]⟩)
 |_,_=>False
def OpF (K:Frag)(R:R2)(r:DR2):Prop:=∀F H x y v u P Q,Xbj F H->Rep K F x v->Rep K F y u->r x y P->(∀d w,P d->Rep K F d w->Q w H)->R v u H Q
theorem OpF.b (h:OpF K R r): OpB K R r:=λH x y v u P Q rx ry w q=>h H H x y v u P Q (Xbj.refl _) rx ry w q
theorem Xbo (h:OpF K R r)(ha:Xdi K ta Ea)(hb:Xdi K tb Eb): Xdi K (tOp R ta tb) (dOp r Ea Eb):=λF0 H0 F H Y δ P Q e w q=>
 ha F0 H0 F H Y δ _ _ e w λx v F1 H1 w1 x1 r1=>hb F0 H0 F1 H1 Y δ _ _ (e.on x1) w1 λy u F2 H2 w2 x2 r2=>
  h F2 H2 x y v u P _ x2.fh (r1.mono x2.ff) r2 w2 λd w p r'=>q d w F2 H2 p (x1.trans x2) r'
theorem Xb4:OpF K (Ym6 K) ixL:=λF H x y v u P Q s rx ry w q=>by
 unfold ixL at w
 split at w
 .obtain ⟨d,e,w⟩:=w
  obtain⟨p,vs,rfl,h1,h2⟩:=rx
  obtain⟨v',e',r⟩:=h2.atI e
  exact⟨p,vs,_,v',rfl,ry,s.seq h1,e',q d v' w r⟩
 .exact w.elim
theorem Xbg:OpF K (Yoz K) ixT:=λF H x y v u P Q s rx ry w q=>by
 unfold ixT at w
 split at w
 .obtain ⟨d,e,w⟩:=w
  obtain⟨p,vs,rfl,h1,h2⟩:=rx
  obtain⟨v',e',r⟩:=h2.atI e
  exact⟨p,vs,_,v',rfl,ry,s.seqT h1,e',q d v' w r⟩
 .exact w.elim
theorem Xsq:OpF K Yo0 ixS:=λF H x y v u P Q s rx ry w q=>by
 unfold ixS at w
 split at w
 .obtain ⟨z,c,e,w⟩:=w
  exact⟨_,_,c,rx,ry,Xd0 z,e,q _ _ w rfl⟩
 .exact w.elim
def CbS (K:Frag)(R:List V->Hp->VK->Prop)(r:List D->(D->Prop)->Prop):Prop:=∀F H ds vs P Q,Xbj F H->Xb1 K H ds vs->r ds P->(∀d w F' H',P d->Ext F H F' H'->Rep K F' d w->Q w H')->R vs H Q
def CbO (K:Frag)(R:List V->Hp->VK->Prop)(r:List D->(OV->Prop)->Prop):Prop:=∀F H ds vs P Q,Xbj F H->Xb1 K F ds vs->r ds P->(∀o w F' H',P o->Ext F H F' H'->Xlg K H F' H' o w->Q w H')->R vs H Q
def dCB (r:List D->(D->Prop)->Prop)(As:DA):DE:=λδ P=>As δ λds=>r ds P
def Yoa (r:List D->(OV->Prop)->Prop)(As:DA):DO:=λδ P=>As δ λds=>r ds P
theorem Xbl {R:List V->Hp->VK->Prop}{r:List D->(D->Prop)->Prop}(h:CbS K R r)(ha:Xoa K a As): Xdi K (tCB R a) (dCB r As):=λF0 H0 F H Y δ P Q e w q=>
 ha F0 H0 F H Y δ _ _ e w λds vs F1 H1 w1 x1 r1=>h F1 H1 ds vs P _ x1.fh r1 w1 λd w F' H' p x' r'=>q d w F' H' p (x1.trans x') r'
theorem Yko {R:List V->Hp->VK->Prop}{r:List D->(OV->Prop)->Prop}(h:CbO K R r)(ha:Xjy K a As): Xjx K (tCB R a) (Yoa r As):=λF0 H0 F H Y δ P Q e w q=>
 ha F0 H0 F H Y δ _ _ e w λds vs F1 H1 w1 x1 r1=>h F1 H1 ds vs P _ x1.fh r1 w1 λd w F' H' p x' r'=>q d w F' H' p (x1.trans x') (r'.old x1.hh)
theorem Xhe (h:Xb1 K F [d] vs): ∃v,vs=[v]/\Rep K F d v:=by
 obtain⟨v,r,rfl,h1,h2⟩:=h
 exact⟨v,by rw[show r=[] from h2],h1⟩
theorem Xza (h:Xb1 K F [d,d'] vs): ∃v u,vs=[v,u]/\Rep K F d v/\Rep K F d' u:=by
 obtain⟨v,r,rfl,h1,h2⟩:=h
 obtain⟨u,rfl,h3⟩:=Xhe h2
 exact⟨v,u,rfl,h1,h3⟩
def Yn0:List D->(D->Prop)->Prop:=λds P=>match ds with
 | [.lst xs]=>P (.int xs.length)
 | [.tup xs]=>P (.int xs.length)
 |_=>False
def Ynz:List D->(D->Prop)->Prop:=λds P=>match ds with
 | [.str x]=>x.length<=1000000/\P (.int x.length)
 |_=>False
theorem Xco:CbS K (λxs H Q=>∃p ys,xs=[.ref p]/\(SqL K H p ys∨SqT K H p ys)/\Q (.int ys.length) H) Yn0:=λF H ds vs P Q s rs w q=>by
 unfold Yn0 at w
 split at w
 .obtain ⟨v,rfl,p,us,rfl,h1,h2⟩:=Xhe rs
  exact⟨p,us,rfl,.inl h1,by rw[<- h2.length];exact q _ _ F H w (Ext.refl s) rfl⟩
 .obtain ⟨v,rfl,p,us,rfl,h1,h2⟩:=Xhe rs
  exact⟨p,us,rfl,.inr h1,by rw[<- h2.length];exact q _ _ F H w (Ext.refl s) rfl⟩
 .exact w.elim
theorem Xif:CbS K (λxs H Q=>∃z,xs=[.str z]/\z.length<=sizeLine/\Q (.int z.length) H) Ynz:=λF H ds vs P Q s rs w q=>by
 unfold Ynz at w
 split at w
 .obtain ⟨v,rfl,r⟩:=Xhe rs
  exact⟨_,by rw[show v=_ from r],Xd0 w.1,q _ _ F H w.2 (Ext.refl s) rfl⟩
 .exact w.elim
def Yoe:List D->(D->Prop)->Prop:=λds P=>match ds with
 | [.int i]=>P (.int i.natAbs)
 |_=>False
theorem Yfw:CbS K (λxs H Q=>∃i,xs=[.int i]/\Q (.int (if i<0 then -i else i)) H) Yoe:=λF H ds vs P Q s rs w q=>by
 unfold Yoe at w
 split at w
 .rename_i i
  obtain⟨v,rfl,r⟩:=Xhe rs
  refine⟨i,by rw[show v=_ from r],?_⟩
  rw[show (if i<0 then -i else i)=(i.natAbs:Int) by split<;>lia]
  exact q _ _ F H w (Ext.refl s) rfl
 .exact w.elim
def Yid:List D->(OV->Prop)->Prop:=λds P=>match ds with
 | [.lst xs]=>P (.nl (xs.map .fz))
 | [.tup xs]=>P (.nl (xs.map .fz))
 |_=>False
theorem Xlg.list (h0:H l=none)(f0:F' l=none)(h:H' l=some (.lst vs))(r:Xb1 K F' ds vs): Xlg K H F' H' (.nl (ds.map .fz)) (.ref l):=
 ⟨[l],⟨l,vs,[],rfl,rfl,h,Xa3.fzs r⟩,by simp,λa ha=>by
  have e:a=l:=by simpa using ha
  rw[e];exact⟨h0,f0⟩⟩
theorem Ext.grow (s:Xbj F H)(h:Xbj H H'): Ext F H F H':=⟨Xbj.refl _,h,s.trans h,λ_ _ z _ _=>z⟩
theorem Yjb:CbO K (Xze K) Yid:=λF H ds vs P Q s rs w q=>by
 unfold Yid at w
 split at w
 .obtain ⟨v,rfl,p,us,rfl,h1,h2⟩:=Xhe rs
  exact⟨p,us,rfl,.inl (s.seq h1),λl H' l0 sm l1=>q _ _ F H' w (Ext.grow s sm) (Xlg.list l0 (s.free l0) l1 h2)⟩
 .obtain ⟨v,rfl,p,us,rfl,h1,h2⟩:=Xhe rs
  exact⟨p,us,rfl,.inr (s.seqT h1),λl H' l0 sm l1=>q _ _ F H' w (Ext.grow s sm) (Xlg.list l0 (s.free l0) l1 h2)⟩
 .exact w.elim
def Yfl (As:DA):DO:=λδ P=>As δ λds=>match ds with
 | [.lst xs]=>D.lfs xs=true/\P (.nl (xs.map .fz))
 | [.tup xs]=>D.lfs xs=true/\P (.nl (xs.map .fz))
 |_=>False
theorem Yck (ha:Xoa K a As): Xjx K (tCB (Xze K) a) (Yfl As):=λF0 H0 F H Y δ P Q e w q=>ha F0 H0 F H Y δ _ _ e w λds vs F1 H1 w1 x1 r1=>by
 have x2:=Xff x1.fh
 split at w1
 .obtain ⟨v,rfl,p,us,rfl,h1,h2⟩:=Xhe r1
  exact⟨p,us,rfl,.inl h1,λl H' l0 sm l1=>q _ _ _ H' w1.2 (x1.trans (x2.trans (Ext.grow x2.fh sm))) (Xlg.list (x1.hh.free l0) (x2.fh.free l0) l1 (Xb1.lf x1.fh h2 w1.1))⟩
 .obtain ⟨v,rfl,p,us,rfl,h1,h2⟩:=Xhe r1
  exact⟨p,us,rfl,.inr h1,λl H' l0 sm l1=>q _ _ _ H' w1.2 (x1.trans (x2.trans (Ext.grow x2.fh sm))) (Xlg.list (x1.hh.free l0) (x2.fh.free l0) l1 (Xb1.lf x1.fh h2 w1.1))⟩
 .exact w1.elim
def Ync:List D->(OV->Prop)->Prop:=λds P=>match ds with
 | [.lst xs]=>P (.fz (.tup xs))
 |_=>False
theorem Xwd:CbO K (Xzd K) Ync:=λF H ds vs P Q s rs w q=>by
 unfold Ync at w
 split at w
 .obtain ⟨v,rfl,p,us,rfl,h1,h2⟩:=Xhe rs
  exact⟨p,us,rfl,s.seq h1,λl H' l0 sm l1=>q _ _ _ H' w (Ext.new s l0 sm l1) (.fz ⟨l,us,rfl,.inl (.inl Xay),h2.mono (Xbj.upd' (s.free l0))⟩)⟩
 .exact w.elim
abbrev DPt:=Dst->(Option Int->Prop)->Prop
def Yfy (K:Frag)(t:TO)(E:DPt):Prop:=∀F0 H0 F H Y δ P Q,Xek K F0 H0 F H Y δ->E δ P->(∀o F' H',P o->Ext F H F' H'->Q o H')->t Y H Q
def Yml:DPt:=λ_ P=>P none
def dPt (E:DE):DPt:=λδ P=>E δ λd=>match d with
 | .int i=>P (some i)
 |_=>False
theorem Xrw:Yfy K Xyb Yml:=λF0 H0 F H Y δ P Q e w q=>q none F H w (Ext.refl e.ext.fh)
theorem Xkc (h:Xe6 K t E): Yfy K (Yj4 t) (dPt E):=λF0 H0 F H Y δ P Q e w q=>h F0 H0 F H Y δ _ _ e w λd v F1 H1 w1 x1 r1=>by
 split at w1
 .exact ⟨_,r1,q _ F1 H1 w1 x1⟩
 .exact w1.elim
def Yfs (xs:List D)(lo hi:Option Int):List D:=(xs.drop (HT.sIx xs.length 0 lo)).take (HT.sIx xs.length xs.length hi-HT.sIx xs.length 0 lo)
theorem Xb1.cut (h:Xb1 K F ds vs)(lo hi:Option Int): Xb1 K F (Yfs ds lo hi) (Yb3 vs lo hi):=by
 unfold Yfs Yb3
 rw[h.length]
 exact (h.drop _).take _
def Ype (Ea:DE)(L U:DPt):DO:=λδ P=>Ea δ λx=>L δ λlo=>U δ λhi=>match x with
 | .lst xs=>P (.nl ((Yfs xs lo hi).map .fz))
 |_=>False
theorem Yel (ha:Xdi K ta Ea)(hl:Yfy K tl L)(hu:Yfy K tu U): Xjx K (tSl (Yow K) ta tl tu) (Ype Ea L U):=λF0 H0 F H Y δ P Q e w q=>
 ha F0 H0 F H Y δ _ _ e w λx v F1 H1 w1 x1 r1=>hl F0 H0 F1 H1 Y δ _ _ (e.on x1) w1 λlo F2 H2 w2 x2=>hu F0 H0 F2 H2 Y δ _ _ ((e.on x1).on x2) w2 λhi F3 H3 w3 x3=>by
  have x13:=x1.trans (x2.trans x3)
  split at w3
  .obtain ⟨p,vs,rfl,h1,h2⟩:=r1.mono (x2.ff.trans x3.ff)
   exact⟨p,vs,rfl,x3.fh.seq h1,λl H' l0 sm l1=>q _ _ F3 H' w3 (x13.trans (Ext.grow x3.fh sm)) (Xlg.list (x13.hh.free l0) (x3.fh.free l0) l1 (h2.cut lo hi))⟩
  .exact w3.elim
mutual
def OV.lf:OV->Bool
 | .fz d=>d.lf
 | .nl ts=>OV.lfs ts
 | .rt _ ts=>OV.lfs ts
 | .fx _ d=>d.lf
 | .ob _ _ _ ts=>OV.lfs ts
def OV.lfs:List OV->Bool
 | []=>true
 |t::ts=>t.lf && OV.lfs ts
end
theorem OV.lfs_eq:∀(ts:List OV),OV.lfs ts=ts.all OV.lf
 | []=>rfl
 |d::ds=>by simp[OV.lfs,OV.lfs_eq ds]
mutual
theorem Xob.lf (s:Xbj F F'): ∀{t:OV} {v:V} {A:List Addr},Xob K F' H' t v A->t.lf=true->Xob K (Xun F F') H' t v A
 | .fz d,v,A,h,z=>⟨h.1,Rep.lf s h.2 (by simpa[OV.lf] using z)⟩
 | .nl ts,v,A,h,z=>by
  obtain⟨a,vs,B,e,e2,h1,h2⟩:=h
  exact⟨a,vs,B,e,e2,h1,Xa3.lf s h2 (by simpa[OV.lf] using z)⟩
 | .fx u d,v,A,h,z=>⟨h.1,h.2.1,Rep.lf s h.2.2 (by simpa[OV.lf] using z)⟩
 | .rt a ts,v,A,h,z=>by
  obtain⟨vs,B,e,e2,h1,h2⟩:=h
  exact⟨vs,B,e,e2,h1,Xa3.lf s h2 (by simpa[OV.lf] using z)⟩
 | .ob o c ns ts,v,A,h,z=>by
  obtain⟨a,C,dx,vs,B,e,e2,h0,ho,h1,h2,hl,h3⟩:=h
  exact⟨a,C,dx,vs,B,e,e2,h0,ho,h1,h2,hl,Xa3.lf s h3 (by simpa[OV.lf] using z)⟩
theorem Xa3.lf {F F' H':Hp}(s:Xbj F F'):∀{ts:List OV} {vs:List V} {A:List Addr},Xa3 K F' H' ts vs A->OV.lfs ts=true->Xa3 K (Xun F F') H' ts vs A
 | [],_,_,h,_=>h
 |t::ts,vs,A,h,z=>by
  obtain⟨v,r,B,C,e1,e2,h1,h2⟩:=h
  simp[OV.lfs]at z
  exact⟨v,r,B,C,e1,e2,Xob.lf s h1 z.1,Xa3.lf s h2 z.2⟩
end
abbrev DSp:=List D->(OV->Prop)->Prop
def spV (K:Frag)(n:Nat)(sp:DSp):Sp:=spL n λvs H Q=>∃F ds P,Xbj F H/\Xb1 K F ds vs/\sp ds P/\∀r v F' H',P r->Ext F H F' H'->Xlg K H F' H' r v->Q v H'
def Ymr (n:Nat)(sp:DSp)(As:DA):DO:=λδ P=>As δ λds=>ds.length=n/\sp ds P
def Yfq (n:Nat)(sp:DSp)(As:DA):DO:=λδ P=>As δ λds=>ds.length=n/\sp ds λr=>r.lf=true/\P r
theorem Xa1 (ha:Xjy K a As): Xjx K (Xyf (spV K n sp) [] E0 a) (Ymr n sp As):=λF0 H0 F H Y δ P Q e w q=>ha F0 H0 F H Y δ _ _ e w λds vs F1 H1 w1 x1 r1=>by
 rw[append_nil]
 exact⟨by rw[<- r1.length];exact w1.1,F1,ds,P,x1.fh,r1,w1.2,λr v F' H' p x' r'=>q r v F' H' p (x1.trans x') (r'.old x1.hh)⟩
theorem Xil (ha:Xoa K a As): Xjx K (Xyf (spV K n sp) [] E0 a) (Yfq n sp As):=λF0 H0 F H Y δ P Q e w q=>ha F0 H0 F H Y δ _ _ e w λds vs F1 H1 w1 x1 r1=>by
 rw[append_nil]
 refine⟨by rw[<- r1.length];exact w1.1,H1,ds,_,Xbj.refl _,r1,w1.2,λr v F' H' p x' r'=>?_⟩
 have s1:Xbj F1 F':=x1.fh.trans x'.ff
 have x2:=Xff s1
 obtain⟨A,a1,a2,a3⟩:=r'
 refine q r v (Xun F1 F') H' p.2 (x1.trans ⟨x2.ff,x'.hh,x2.fh.trans x'.fh,λb o z1 z2 z3=>?_⟩) ⟨A,a1.lf s1 p.1,a2,λb hb=>⟨x1.hh.free (a3 b hb).1,x2.fh.free (a3 b hb).2⟩⟩
 exact x2.no b o z1 (x'.ff _ _ z2) z3
end
section
variable {K:Frag}{te ti ta:TE}{E Ea Ei:DE}{Eo:DO}{t u:TS}{T U:DS}
def Ykp:DS:=λDe δ=>De.nx δ
def Ym4 (T U:DS):DS:=λDe δ=>T {De with nx:=U De} δ
theorem Xa7:Xc3 K Yj6 Ykp:=λF0 H0 F H Y δ De E e l w=>l.nx F H Y δ e w
theorem Xao (h:Xc3 K t T)(g:Xc3 K u U): Xc3 K (Ynf t u) (Ym4 T U):=λF0 H0 F H Y δ De E e l w=>
 h F0 H0 F H Y δ {De with nx:=U De} _ e ⟨λF1 H1 Y1 δ1 e1 w1=>g F0 H0 F1 H1 Y1 δ1 De E e1 l w1,l.bk,l.ct,l.rt⟩ w
def Yeo:DS:=λDe δ=>De.bk δ
theorem Yci:Xc3 K Yed Yeo:=λF0 H0 F H Y δ De E e l w=>l.bk F H Y δ e w
def Ym5 (E:DO):DS:=λDe δ=>E δ De.rt
theorem Xa2 (h:Xjx K te Eo): Xc3 K (Yj3 te) (Ym5 Eo):=λF0 H0 F H Y δ De En e l w=>h F0 H0 F H Y δ _ _ e w λr v F' H' p x n=>l.rt F' H' r v (e.ext.trans x) (n.old e.ext.hh) p
def Ygr (i:Nat):DS:=λDe δ=>match δ[i]? with
 |some (some (.own t))=>De.rt t
 |_=>False
theorem Xna:Xc3 K (Yj3 (Xod i)) (Ygr i):=λF0 H0 F H Y δ De En ⟨A,e⟩ l w=>by
 unfold Ygr at w
 split at w
 .rename_i t ht
  obtain⟨v,h1,h2⟩:=e.own i t ht
  exact⟨v,h1,l.rt F H t v e.ext ⟨A i,h2,e.nod i,λa ha=>⟨(e.new i a ha).2.1,(e.new i a ha).1⟩⟩ w⟩
 .exact w.elim
def sIf (C:DT)(T U:DS):DS:=λDe δ=>C δ λb=>if b=true then T De δ else U De δ
theorem Xcd (h:Xuv K c C)(ht:Xc3 K t T)(hu:Xc3 K u U): Xc3 K (Yng c t u) (sIf C T U):=λF0 H0 F H Y δ De En e l w=>h F0 H0 F H Y δ _ _ e w λb F' H' p x=>by
 cases b with
 |true=>exact Yfc (ht F0 H0 F' H' Y δ De En (e.on x) l p)
 |false=>exact Yfd rfl (hu F0 H0 F' H' Y δ De En (e.on x) l p)
def Ynj (i:Nat)(E:DO):DS:=λDe δ=>E δ λr=>De.nx (δ.set i (some (.own r)))
theorem Xa5 (h:Xjx K te Eo): Xc3 K (Xyg te (Xo2 i)) (Ynj i Eo):=λF0 H0 F H Y δ De En e l w=>h F0 H0 F H Y δ _ _ e w λr v F' H' p x n=>l.nx F' H' _ _ (e.put x i n) p
def You (i:Nat)(r:DR2)(E:DE):DS:=λDe δ=>dV i δ λx=>E δ λy=>r x y λz=>De.nx (δ.set i (some (.own (.fz z))))
theorem Ykj (ho:OpS K R r)(h:Xe6 K te E): Xc3 K (Yop i te R) (You i r E):=λF0 H0 F H Y δ De En e l w=>by
 obtain⟨v,hv,w⟩:=Xai F0 H0 F H Y δ _ (λv H'=>te Y H' λy H1=>R v y H1 λz H2=>En.nx (Y.set i (some z)) H2) e w λd v F1 H1 p x1 r1=>h F0 H0 F1 H1 Y δ _ _ (e.on x1) p λy u F2 H2 p2 x2 r2=>ho F2 H2 d y v u _ _ x2.fh (r1.mono (x1.fh.trans x2.hh |> λs=>s)) r2 p2 λz w F3 H3 p3 x3 r3=>l.nx F3 H3 _ _ (((e.on x1).on x2).put x3 i (.fz r3)) p3
 exact⟨v,hv,w⟩
def gN (i:Nat):D->Dst->(Dst->Prop)->Prop:=λd δ P=>P (δ.set i (some (.own (.fz d))))
theorem Xbe:Yjn K (Xo2 i) (gN i):=λF0 H0 F H Y δ A d v P Q e r w q=>q _ _ _ w (e.putFz i r) λj a ha=>by
 split at ha
 .cases ha
 .exact ha
def Yaq:List D->Dst->(Dst->Prop)->Prop:=λds δ P=>match ds with
 | []=>P δ
 |_=>False
def Xs4 (G:D->Dst->(Dst->Prop)->Prop)(Gs:List D->Dst->(Dst->Prop)->Prop):List D->Dst->(Dst->Prop)->Prop:=λds δ P=>match ds with
 |d::r=>G d δ λδ'=>Gs r δ' P
 |_=>False
theorem Xp8:Yd0 K Yo9 Yaq:=λF0 H0 F H Y δ A ds vs P Q e r w q=>by
 unfold Yaq at w
 split at w
 .exact ⟨r,q _ _ A w e λ_ _ z=>z⟩
 .exact w.elim
theorem Xef {G:D->Dst->(Dst->Prop)->Prop}{Gs:List D->Dst->(Dst->Prop)->Prop}(h:Yjn K g G)(hs:Yd0 K gs Gs): Yd0 K (Yl6 g gs) (Xs4 G Gs):=λF0 H0 F H Y δ A ds vs P Q e r w q=>by
 unfold Xs4 at w
 split at w
 .obtain ⟨v,r',rfl,h1,h2⟩:=r
  exact⟨v,r',rfl,h F0 H0 F H Y δ A _ v _ _ e h1 w λY' δ' A' w' e' sb=>hs F0 H0 F H Y' δ' A' _ r' P Q e' h2 w' λY2 δ2 A2 w2 e2 sb2=>q Y2 δ2 A2 w2 e2 λi a z=>sb i a (sb2 i a z)⟩
 .exact w.elim
def gT (n:Nat)(Gs:List D->Dst->(Dst->Prop)->Prop):D->Dst->(Dst->Prop)->Prop:=λd δ P=>match d with
 | .tup ds=>ds.length=n/\Gs ds δ P
 |_=>False
theorem Xvd {Gs:List D->Dst->(Dst->Prop)->Prop}(hs:Yd0 K gs Gs): Yjn K (Yo8 K n gs) (gT n Gs):=λF0 H0 F H Y δ A d v P Q e r w q=>by
 unfold gT at w
 split at w
 .obtain ⟨a,vs,rfl,h1,h2⟩:=r
  exact⟨a,vs,rfl,e.ext.fh.seqT h1,by rw[<- h2.length];exact w.1,hs F0 H0 F H Y δ A _ vs P Q e h2 w.2 q⟩
 .exact w.elim
def Yov (E:DE)(G:D->Dst->(Dst->Prop)->Prop):DS:=λDe δ=>E δ λd=>G d δ De.nx
theorem Ykk {G:D->Dst->(Dst->Prop)->Prop}(h:Xdi K te E)(hg:Yjn K g G): Xc3 K (Xyg te g) (Yov E G):=λF0 H0 F H Y δ De En e l w=>h F0 H0 F H Y δ _ _ e w λd v F' H' p x r=>
 let⟨A,e⟩:=e
 hg F0 H0 F' H' Y δ A d v _ _ (e.on x) r p λY' δ' A' w' e' _=>l.nx F' H' Y' δ' ⟨A',e'⟩ w'
theorem ER.change {A:Nat->List Addr}(e:ER K F0 H0 F H Y δ A)(i:Nat)(hv:Y[i]?=some (some v))(hr:Xob K F H' t' v B)(hB:B.Nodup)
  (hBn:∀b∈B,F b=none/\H0 b=none) (dj:∀j,j≠i->∀b∈B,b∉A j) (keep:∀b o,b∉A i->H b=some o->H' b=some o): Xek K F0 H0 F H' Y (δ.set i (some (.own t'))):=by
 have hi:i<δ.length:=by rw[<- e.len];exact (List.getElem?_eq_some_iff.mp hv).1
 refine⟨λj=>if j=i then B else A j,by simp[e.len],⟨e.ext.ff,λb o h=>?_,λb o h=>?_,e.ext.no⟩,λj t hj=>?_,λj d hj=>?_,λj=>?_,λj k a hjk h1 h2=>?_,λj a ha=>?_⟩
 .exact keep b o (λz=>by rw[(e.new i b z).2.1]at h;cases h) (e.ext.hh _ _ h)
 .exact keep b o (λz=>by rw[(e.new i b z).1]at h;cases h) (e.ext.fh _ _ h)
 .by_cases z:j=i
  .subst z
   rw[if_pos rfl]
   rw[getElem?_set_self hi]at hj
   cases hj
   exact⟨v,hv,hr⟩
  .rw [if_neg z]
   rw[getElem?_set_ne (Ne.symm z)]at hj
   obtain⟨u,h1,h2⟩:=e.own j t hj
   exact⟨u,h1,h2.frame (Xbj.refl _) λa ha xs h=>keep a _ (e.dis j i a z ha) h⟩
 .by_cases z:j=i
  .subst z
   rw[getElem?_set_self hi]at hj
   cases hj
  .rw [getElem?_set_ne (Ne.symm z)]at hj
   exact e.bw j d hj
 .split
  .exact hB
  .exact e.nod j
 .split at h1
  .split at h2
   .lia
   .rename_i z1 z2
    exact dj k z2 a h1 h2
  .split at h2
   .rename_i z1 z2
    exact dj j z1 a h2 h1
   .exact e.dis j k a hjk h1 h2
 .split at ha
  .exact ⟨(hBn a ha).1,(hBn a ha).2,hr.isl a ha⟩
  .rename_i z
   obtain⟨h1,h2,xs,h3,himm⟩:=e.new j a ha
   exact⟨h1,h2,xs,keep a _ (e.dis j i a z ha) h3,himm⟩
def Ynn (i:Nat)(E:DO):DS:=λDe δ=>match δ[i]? with
 |some (some (.own (.nl ts)))=>ts.length<1000000/\E δ λr=>De.nx (δ.set i (some (.own (.nl (ts++[r])))))
 |_=>False
theorem Xav (h:b≠a)(e:H b=some o'): upd H a o b=some o':=by rw[Xbu h];exact e
theorem Xvb (h:Xjx K te Eo): Xc3 K (Xpx (tBM K "list" rAppend (Xod i) (Xfr te Xoi))) (Ynn i Eo):=λF0 H0 F H Y δ De En e l w=>by
 obtain⟨A,e⟩:=e
 unfold Ynn at w
 split at w
 .rename_i ts hs
  obtain⟨pl,w⟩:=w
  obtain⟨v,hv,a,vs,B,rfl,eA,ha,hB⟩:=e.own i _ hs
  refine⟨_,hv,.inl ⟨rfl,_,SqL.of ha⟩,?_⟩
  refine h F0 H0 F H Y δ _ _ ⟨A,e⟩ w λr u F1 H1 p x1 n=>?_
  obtain⟨C,c1,c2,c3⟩:=n
  have e1:=e.on x1
  have hl:=hB.length
  refine⟨a,vs,u,rfl,rfl,x1.hh _ _ ha,Xwm (by lia),?_⟩
  have hB1:Xa3 K F1 H1 ts vs B:=hB.frame x1.ff λb _ xs z=>x1.hh _ _ z
  have hnd:=e.nod i
  rw[eA]at hnd
  obtain⟨n1,n2⟩:=nodup_cons.mp hnd
  have hCA:∀j b,b∈C->b∉A j:=λj b hb z=>by
   obtain⟨_,_,xs,q,_⟩:=e.new j b z
   rw[(c3 b hb).1]at q;cases q
  have haC:a∉C:=λz=>hCA i a z (by rw[eA];exact mem_cons_self)
  refine l.nx F1 _ Y _ (e1.change i hv (t':=.nl (ts++[r])) (B:=a::(B++C)) ⟨a,vs++[u],B++C,rfl,rfl,Xay,?_⟩ ?_ ?_ ?_ ?_) p
  .exact Xa3.append (hB1.frame (Xbj.refl _) λb hb xs z=>Xav (λq=>n1 (by rw[<- q];exact hb)) z) (Xa3.one (c1.frame (Xbj.refl _) λb hb xs z=>Xav (λq=>haC (by rw[<- q];exact hb)) z))
  .refine nodup_cons.mpr ⟨λz=>?_,nodup_append.mpr ⟨n2,c2,λx hx y hy z=>?_⟩⟩
   .rcases mem_append.mp z with z |z
    .exact n1 z
    .exact haC z
   .subst z
    exact hCA i x hy (by rw[eA];exact mem_cons_of_mem _ hx)
  .intro b hb
   have hb':b∈A i∨b∈C:=by
    rw[eA]
    rcases mem_cons.mp hb with z |z
    .exact .inl (by rw[z];exact mem_cons_self)
    .rcases mem_append.mp z with z |z
     .exact .inl (mem_cons_of_mem _ z)
     .exact .inr z
   rcases hb' with z |z
   .exact ⟨(e1.new i b z).1,(e1.new i b z).2.1⟩
   .exact ⟨(c3 b z).2,e.ext.hh.free (c3 b z).1⟩
  .intro j hj b hb z
   rcases mem_cons.mp hb with q |q
   .subst q;exact e.dis j i b hj z (by rw[eA];exact mem_cons_self)
   .rcases mem_append.mp q with q |q
    .exact e.dis j i b hj z (by rw[eA];exact mem_cons_of_mem _ q)
    .exact hCA j b q z
  .intro b o hb q
   exact Xav (λz=>hb (by rw[eA,z];exact mem_cons_self)) q
 .exact w.elim
def Yos (i:Nat)(Ei:DE)(E:DO):DS:=λDe δ=>E δ λr=>match δ[i]? with
 |some (some (.own (.nl ts)))=>Ei δ λk=>match k with
  | .int k=>∃j,ixN ts.length k=some j/\De.nx (δ.set i (some (.own (.nl (ts.set j r)))))
  |_=>False
 |_=>False
theorem Xnb (h:Xjx K te Eo)(hi:Xe6 K ti Ei): Xc3 K (Xyg te (Ynb (Xod i) ti Ycs)) (Yos i Ei Eo):=λF0 H0 F H Y δ De En e l w=>by
 refine h F0 H0 F H Y δ _ _ e w λr u F1 H1 p x1 n=>?_
 obtain⟨A,e⟩:=e
 split at p
 .rename_i ts hs
  have e1:=e.on x1
  obtain⟨v,hv,a,vs,B,rfl,eA,ha,hB⟩:=e1.own i _ hs
  refine⟨_,hv,?_⟩
  refine hi F0 H0 F1 H1 Y δ _ _ ⟨A,e1⟩ p λk kv F2 H2 p2 x2 r2=>?_
  split at p2
  .rename_i k
   obtain⟨j,hj,p2⟩:=p2
   have e2:=e1.on x2
   have ha2:=x2.hh _ _ ha
   have hB2:Xa3 K F2 H2 ts vs B:=hB.frame x2.ff λb _ xs z=>x2.hh _ _ z
   obtain⟨C,c1,c2,c3⟩:=n
   have c1':Xob K F2 H2 r u C:=c1.frame x2.ff λb _ xs z=>x2.hh _ _ z
   have hl:=hB.length
   refine⟨a,vs,k,j,rfl,r2,ha2,by rw[<- hl];exact hj,?_⟩
   have hjl:j<ts.length:=by
    unfold ixN at hj
    split at hj
    .split at hj
     .cases hj;lia
     .cases hj
    .split at hj
     .cases hj;lia
     .cases hj
   obtain⟨v0,A1,B0,A2,f1,rfl,f3,f4⟩:=hB2.focus (getElem?_eq_getElem hjl)
   have hnd:=e.nod i
   rw[eA]at hnd
   obtain⟨n1,n2⟩:=nodup_cons.mp hnd
   have hCA:∀j b,b∈C->b∉A j:=λj b hb z=>by
    obtain⟨_,_,xs,q,_⟩:=e.new j b z
    rw[(c3 b hb).1]at q;cases q
   have haC:a∉C:=λz=>hCA i a z (by rw[eA];exact mem_cons_self)
   have sub:∀b,b∈A1++A2->b∈A1++(B0++A2):=λb hb=>by
    rcases mem_append.mp hb with z |z<;>simp[z]
   have ina:∀b,b∈a::(A1++(C++A2))->b∈A i∨b∈C:=λb hb=>by
    rw[eA]
    rcases mem_cons.mp hb with z |z
    .exact .inl (by rw[z];exact mem_cons_self)
    .rcases mem_append.mp z with z |z
     .exact .inl (by simp[z])
     .rcases mem_append.mp z with z |z
      .exact .inr z
      .exact .inl (by simp[z])
   refine l.nx F2 _ Y _ (e2.change i hv (t':=.nl (ts.set j r)) (B:=a::(A1++(C++A2))) ⟨a,vs.set j u,_,rfl,rfl,Xay,f4 F2 _ r u C (Xbj.refl _) (λb hb xs z=>?_) (c1'.frame (Xbj.refl _) λb hb xs z=>Xav (λq=>haC (by rw[<- q];exact hb)) z)⟩ ?_ ?_ ?_ ?_) p2
   .exact Xav (λq=>n1 (by rw[<- q];exact sub b hb)) z
   .obtain ⟨m1,m2,m3⟩:=nodup_append.mp n2
    obtain⟨k1,k2,k3⟩:=nodup_append.mp m2
    refine nodup_cons.mpr ⟨λz=>?_,nodup_append.mpr ⟨m1,nodup_append.mpr ⟨c2,k2,λx hx y hy z=>?_⟩,λx hx y hy z=>?_⟩⟩
    .rcases mem_append.mp z with z |z
     .exact n1 (by simp[z])
     .rcases mem_append.mp z with z |z
      .exact haC z
      .exact n1 (by simp[z])
    .subst z
     exact hCA i x hx (by rw[eA];simp[hy])
    .rcases mem_append.mp hy with q |q
     .subst z
      exact hCA i x q (by rw[eA];simp[hx])
     .exact m3 x hx y (by simp[q]) z
   .intro b hb
    rcases ina b hb with z |z
    .exact ⟨(e2.new i b z).1,(e2.new i b z).2.1⟩
    .obtain ⟨xs,q,himm⟩:=c1.isl b z
     exact⟨x2.no b _ (c3 b z).2 q himm,e.ext.hh.free (c3 b z).1⟩
   .intro j' hj' b hb z
    rcases ina b hb with q |q
    .exact e.dis j' i b hj' z q
    .exact hCA j' b q z
   .intro b o hb q
    exact Xav (λz=>hb (by rw[eA,z];exact mem_cons_self)) q
  .exact p2.elim
 .exact p.elim
def Yg8 (i:Nat)(g:Int->Int->Int)(Ei E:DE):DS:=λDe δ=>match δ[i]? with
 |some (some (.own (.nl ts)))=>Ei δ λk=>match k with
  | .int k=>0<=k/\∃x,ts[k.toNat]?=some (.fz (.int x))/\E δ λy=>match y with
   | .int y=>De.nx (δ.set i (some (.own (.nl (ts.set k.toNat (.fz (.int (g x y))))))))
   |_=>False
  |_=>False
 |_=>False
theorem Ygp {g:Int->Int->Int}(hi:Xe6 K ti Ei)(h:Xe6 K te E): Xc3 K (Yj9 (Xod i) ti te (Yk1 K) (ipI g) Ycs) (Yg8 i g Ei E):=λF0 H0 F H Y δ De En e l w=>by
 obtain⟨A,e⟩:=e
 unfold Yg8 at w
 split at w
 .rename_i ts hs
  obtain⟨v,hv,a,vs,B,rfl,eA,ha,hB⟩:=e.own i _ hs
  refine⟨_,hv,?_⟩
  refine hi F0 H0 F H Y δ _ _ ⟨A,e⟩ w λk kv F1 H1 p x1 r1=>?_
  split at p
  .rename_i k
   obtain⟨k0,x,hx,p⟩:=p
   have e1:=e.on x1
   have ha1:=x1.hh _ _ ha
   have hB1:Xa3 K F1 H1 ts vs B:=hB.frame x1.ff λb _ xs z=>x1.hh _ _ z
   obtain⟨v0,A1,B0,A2,f1,rfl,f3,f4⟩:=hB1.focus hx
   obtain⟨rfl,f3⟩:=f3
   refine⟨a,vs,k,v0,rfl,r1,SqL.of ha1,k0,f1,?_⟩
   refine h F0 H0 F1 H1 Y δ _ _ ⟨A,e1⟩ p λy yv F2 H2 p2 x2 r2=>?_
   split at p2
   .rename_i y
    have e2:=e1.on x2
    have hjl:k.toNat<vs.length:=(List.getElem?_eq_some_iff.mp f1).1
    refine⟨x,y,f3,r2,a,vs,k,k.toNat,rfl,r1,x2.hh _ _ ha1,?_,?_⟩
    .unfold ixN
     rw[if_pos k0,if_pos (by lia)]
    .have hnd:=e.nod i
     rw[eA]at hnd
     obtain⟨n1,n2⟩:=nodup_cons.mp hnd
     refine l.nx F2 _ Y _ (e2.change i hv (t':=.nl (ts.set k.toNat (.fz (.int (g x y))))) (B:=a::(A1++([]++A2))) ⟨a,_,_,rfl,rfl,Xay,f4 F2 _ (.fz (.int (g x y))) _ [] x2.ff (λb hb xs z=>Xav (λq=>n1 (by rw[<- q];exact hb)) (x2.hh _ _ z)) ⟨rfl,rfl⟩⟩ ?_ ?_ ?_ ?_) p2
     .exact hnd
     .intro b hb
      exact⟨(e2.new i b (by rw[eA];exact hb)).1,(e2.new i b (by rw[eA];exact hb)).2.1⟩
     .intro j hj b hb z
      exact e.dis j i b hj z (by rw[eA];exact hb)
     .intro b o hb q
      exact Xav (λz=>hb (by rw[eA,z];exact mem_cons_self)) q
   .exact p2.elim
  .exact p.elim
 .exact w.elim
end
section
variable {K:Frag}{te ti ta tl:TE}{E Ea Ei El:DE}{Eo:DO}{t u:TS}{T U:DS}{a:TA}{As:DA}
theorem ER.rebase {A:Nat->List Addr}(e:ER K F0 H0 F H Y δ A): ER K F H0 F H Y δ A:=⟨e.len,⟨Xbj.refl _,e.ext.hh,e.ext.fh,λ_ _ z _ _=>z⟩,e.own,e.bw,e.nod,e.dis,e.new⟩
theorem Xek.rebase (e:Xek K F0 H0 F H Y δ): Xek K F H0 F H Y δ:=let⟨A,e⟩:=e;⟨A,e.rebase⟩
theorem Ext.unbase (x:Ext F0 H0 F1 H1)(y:Ext F1 H0 F H): Ext F0 H0 F H:=⟨x.ff.trans y.ff,y.hh,y.fh,λa o z1 z2 z3=>y.no a o (x.no a o z1 z2 z3) z2 z3⟩
theorem Xek.unbase (x:Ext F0 H0 F1 H1)(e:Xek K F1 H0 F H Y δ): Xek K F0 H0 F H Y δ:=let⟨A,e⟩:=e;⟨A,e.len,x.unbase e.ext,e.own,e.bw,e.nod,e.dis,e.new⟩
def Ykf (C:DT)(T:DS):DS:=λDe δ=>∃W:Nat->Dst->Prop,(∃m,W m δ)/\∀m δ,W m δ->C δ λb=>if b=true then T {nx:=λδ'=>∃m',m'<m/\W m' δ',ct:=λδ'=>∃m',m'<m/\W m' δ',bk:=De.nx,rt:=De.rt} δ else De.nx δ
theorem Xva (h:Xuv K c C)(ht:Xc3 K t T): Xc3 K (Yd9 c t) (Ykf C T):=λF0 H0 F H Y δ De En e l w=>by
 obtain⟨W,⟨m0,w0⟩,hW⟩:=w
 refine⟨λm Y H=>∃F δ,Xek K F0 H0 F H Y δ/\W m δ,⟨m0,F,δ,e,w0⟩,?_⟩
 rintro m Y1 H1 ⟨F1,δ1,e1,w1⟩
 refine h F0 H0 F1 H1 Y1 δ1 _ _ e1 (hW m δ1 w1) λb F2 H2 p x=>?_
 cases b with
 |true=>
  refine Yfc ⟨λY' H'=>∃m',m'<m/\∃F δ,Xek K F0 H0 F H' Y' δ/\W m' δ,λY' H' z=>z,?_⟩
  refine ht F0 H0 F2 H2 Y1 δ1 {nx:=λδ'=>∃m',m'<m/\W m' δ',ct:=λδ'=>∃m',m'<m/\W m' δ',bk:=De.nx,rt:=De.rt} _ (e1.on x) ⟨λF3 H3 Y3 δ3 e3 ⟨m',hm,w3⟩=>⟨m',hm,F3,δ3,e3,w3⟩,l.nx,λF3 H3 Y3 δ3 e3 ⟨m',hm,w3⟩=>⟨m',hm,F3,δ3,e3,w3⟩,l.rt⟩ p
 |false=>exact Yfd rfl (l.nx F2 H2 Y1 δ1 (e1.on x) p)
def ItR (K:Frag)(F:Hp)(J:It)(ds:List D):Prop:=∀F1 H1,Xbj F F1->Xbj F1 H1->(∀i,i<ds.length->J.go i H1)/\J.stop ds.length H1/\∀i x H2,i<ds.length->J.yld i H1 x H2->∃d F2,ds[i]?=some d/\Ext F1 H1 F2 H2/\Rep K F2 d x
def Yb4 (K:Frag)(wi:TI)(I:DA):Prop:=∀F0 H0 F H Y δ P R,Xek K F0 H0 F H Y δ->I δ P->(∀ds J F' H',P ds->Ext F H F' H'->ItR K F' J ds->R J H')->wi Y H R
def Ypq (G:D->Dst->(Dst->Prop)->Prop)(T:DS)(De:DEnds)(ds:List D)(δ:Dst):Prop:=∃W:Nat->Dst->Prop,W 0 δ/\
 (∀i d δ,ds[i]?=some d->W i δ->G d δ λδ'=>T {nx:=W (i+1),ct:=W (i+1),bk:=De.nx,rt:=De.rt} δ')/\∀δ,W ds.length δ->De.nx δ
def Yot (I:DA)(G:D->Dst->(Dst->Prop)->Prop)(T:DS):DS:=λDe δ=>I δ λds=>Ypq G T De ds δ
theorem Xfy {G:D->Dst->(Dst->Prop)->Prop}(hi:Yb4 K wi I)(hg:Yjn K g G)(ht:Xc3 K t T): Xc3 K (Yoo wi g t) (Yot I G T):=λF0 H0 F H Y δ De En e l w=>
 hi F0 H0 F H Y δ _ _ e w λds J F1 H1 p x1 hJ=>by
  have b1:=(e.on x1).ext
  obtain⟨W,w0,ws,wd⟩:=p
  refine⟨λi m Y H=>m=ds.length-i/\i<=ds.length/\∃F δ,Xek K F1 H0 F H Y δ/\W i δ,⟨ds.length,rfl,zero_le _,F1,δ,(e.on x1).rebase,w0⟩,?_⟩
  rintro i m Y2 H2 ⟨rfl,hil,F2,δ2,⟨A2,e2⟩,w2⟩
  obtain⟨j1,j2,j3⟩:=hJ F2 H2 e2.ext.ff e2.ext.fh
  by_cases hlt:i<ds.length
  .refine .inr ⟨j1 i hlt,λY' H'=>∃F δ,Xek K F1 H0 F H' Y' δ/\W (i+1) δ,λY' H' ⟨F3,δ3,e3,w3⟩=>⟨ds.length-(i+1),by omega,rfl,hlt,F3,δ3,e3,w3⟩,λx H3 y=>?_⟩
   obtain⟨d,F3,hd,x3,r3⟩:=j3 i x H3 hlt y
   refine hg F1 H0 F3 H3 Y2 δ2 A2 d x _ _ (e2.on x3) r3 (ws i d δ2 hd w2) λY4 δ4 A4 w4 e4 _=>?_
   exact ht F1 H0 F3 H3 Y4 δ4 {nx:=W (i+1),ct:=W (i+1),bk:=De.nx,rt:=De.rt} _ ⟨A4,e4⟩ ⟨λF5 H5 Y5 δ5 e5 w5=>⟨F5,δ5,e5,w5⟩,λF5 H5 Y5 δ5 e5 w5=>l.nx F5 H5 Y5 δ5 (e5.unbase b1) w5,λF5 H5 Y5 δ5 e5 w5=>⟨F5,δ5,e5,w5⟩,λF5 H5 r v x5 n5 w5=>l.rt F5 H5 r v (b1.unbase x5) n5 w5⟩ w4
  .have hi':i=ds.length:=by lia
   subst hi'
   exact .inl ⟨j2,l.nx F2 H2 Y2 δ2 (Xek.unbase b1 ⟨A2,e2⟩) (wd _ w2)⟩
def Yi0 (G:D->Dst->(Dst->Prop)->Prop)(T:DS)(De:DEnds):List D->Dst->Prop
 | [],δ=>De.nx δ
 |d::ds,δ=>G d δ λδ'=>T {nx:=Yi0 G T De ds,ct:=Yi0 G T De ds,bk:=De.nx,rt:=De.rt} δ'
theorem Yi0.w {G:D->Dst->(Dst->Prop)->Prop}{T:DS}{De:DEnds}{ds:List D}{δ:Dst}(h:Yi0 G T De ds δ):Ypq G T De ds δ:=by
 refine⟨λi δ=>Yi0 G T De (ds.drop i) δ,h,λi d δ e w=>?_,λδ w=>?_⟩
 .obtain ⟨hlt,e⟩:=List.getElem?_eq_some_iff.mp e
  have w':Yi0 G T De (ds.drop i) δ:=w
  rw[List.drop_eq_getElem_cons hlt,e]at w'
  exact w'
 .have w':Yi0 G T De (ds.drop ds.length) δ:=w
  rw[drop_length]at w';exact w'
def Ypi (El:DE):DA:=λδ P=>El δ λd=>match d with
 | .lst ds=>P ds
 |_=>False
def Ypg (El:DE):DA:=λδ P=>El δ λd=>match d with
 | .tup ds=>P ds
 |_=>False
theorem Xgq (h:Xdi K tl El): Yb4 K (Yir K tl) (Ypi El):=λF0 H0 F H Y δ P R e w q=>h F0 H0 F H Y δ _ _ e w λd v F' H' p x r=>by
 split at p
 .obtain ⟨a,vs,rfl,h1,h2⟩:=r
  refine⟨a,rfl,⟨vs,x.fh.seq h1⟩,q _ _ F' H' p x λF1 H1 s1 s2=>?_⟩
  have hl:=h2.length
  have hq:=(s1.trans s2).seq h1
  refine⟨λi hi=>⟨vs,vs[i],hq,getElem?_eq_getElem (by lia)⟩,⟨vs,hq,by lia⟩,λi x H2 hi y=>?_⟩
  obtain⟨rfl,y⟩:=y
  obtain⟨d,hd,rd⟩:=h2.get' (y vs hq)
  exact⟨d,F1,hd,Ext.refl s2,rd.mono s1⟩
 .exact p.elim
theorem Xrx (h:Xdi K tl El): Yb4 K (Yo5 K tl) (Ypg El):=λF0 H0 F H Y δ P R e w q=>h F0 H0 F H Y δ _ _ e w λd v F' H' p x r=>by
 split at p
 .obtain ⟨a,vs,rfl,h1,h2⟩:=r
  refine⟨a,rfl,⟨vs,x.fh.seqT h1⟩,q _ _ F' H' p x λF1 H1 s1 s2=>?_⟩
  have hl:=h2.length
  have hq:=(s1.trans s2).seqT h1
  refine⟨λi hi=>⟨vs,vs[i],hq,getElem?_eq_getElem (by lia)⟩,⟨vs,hq,by lia⟩,λi x H2 hi y=>?_⟩
  obtain⟨rfl,y⟩:=y
  obtain⟨d,hd,rd⟩:=h2.get' (y vs hq)
  exact⟨d,F1,hd,Ext.refl s2,rd.mono s1⟩
 .exact p.elim
def rng (lo c:Int)(n:Nat):List D:=(List.range n).map λ(i:Nat)=>D.int (lo+i*c)
theorem Xew {lo c:Int}{n:Nat}:(rng lo c n).length=n:=by simp[rng]
theorem Xt0 {lo c:Int}{n i:Nat}(h:i<n):(rng lo c n)[i]?=some (.int (lo+i*c)):=by simp[rng,h]
theorem Xgr {lo c:Int}{n i:Nat}{d:D}(h:(rng lo c n)[i]?=some d):i<n/\d = .int (lo+i*c):=by
 have hi:i<n:=by
  have:=(List.getElem?_eq_some_iff.mp h).1
  rwa[Xew]at this
 rw[Xt0 hi]at h
 exact⟨hi,(Option.some.inj h).symm⟩
theorem Yim {F:Hp}{lo:Int}{n:Nat}:ItR K F (Itr lo n) (rng lo 1 n):=λF1 H1 s1 s2=>by
 rw[Xew]
 refine⟨λi hi=>hi,Nat.le_refl _,λi x H2 hi y=>?_⟩
 obtain⟨rfl,rfl⟩:=y
 exact⟨_,F1,Xt0 hi,Ext.refl s2,by rw[mul_one];rfl⟩
theorem Ydo {F:Hp}{lo c:Int}{n:Nat}:ItR K F (Yoj lo c n) (rng lo c n):=λF1 H1 s1 s2=>by
 rw[Xew]
 refine⟨λi hi=>hi,Nat.le_refl _,λi x H2 hi y=>?_⟩
 obtain⟨rfl,rfl⟩:=y
 exact⟨_,F1,Xt0 hi,Ext.refl s2,rfl⟩
def Ymh (As:DA):DA:=λδ P=>As δ λds=>match ds with
 | [.int j]=>(-(2^62)<=j/\j<2^62)/\P (rng 0 1 j.toNat)
 |_=>False
def Ymg (As:DA):DA:=λδ P=>As δ λds=>match ds with
 | [.int i,.int j,.int c]=>(-(2^61)<=i/\i<2^61/\-(2^61)<=j/\j<2^61/\0<c/\c<2^29)/\P (rng i c (Xhx i j c))
 |_=>False
theorem Yno (h:Xb1 K F [d,d',d''] vs): ∃v u w,vs=[v,u,w]/\Rep K F d v/\Rep K F d' u/\Rep K F d'' w:=by
 obtain⟨v,r,rfl,h1,h2⟩:=h
 obtain⟨u,w,rfl,h3,h4⟩:=Xza h2
 exact⟨v,u,w,rfl,h1,h3,h4⟩
theorem Xgp (h:Xoa K a As): Yb4 K (Yl4 a) (Ymh As):=λF0 H0 F H Y δ P R e w q=>h F0 H0 F H Y δ _ _ e w λds vs F' H' p x r=>by
 split at p
 .obtain ⟨v,rfl,r1⟩:=Xhe r
  exact⟨_,by rw[show v=_ from r1],p.1.1,p.1.2,q _ _ F' H' p.2 x Yim⟩
 .exact p.elim
theorem Xnd (h:Xoa K a As): Yb4 K (Yl3 a) (Ymg As):=λF0 H0 F H Y δ P R e w q=>h F0 H0 F H Y δ _ _ e w λds vs F' H' p x r=>by
 split at p
 .obtain ⟨v,u,z,rfl,r1,r2,r3⟩:=Yno r
  exact⟨_,_,_,by rw[show v=_ from r1,show u=_ from r2,show z=_ from r3],p.1,q _ _ F' H' p.2 x Ydo⟩
 .exact p.elim
def Yfx (ix:List (Option Nat))(δ:Dst):Dst:=ix.map λo=>match o with
 |none=>none
 |some i=>match δ[i]? with
  |some (some (.own (.fz d)))=>some (.own (.fz d))
  |some (some (.own (.fx _ d)))=>some (.own (.fz d))
  |some (some (.own t))=>some (.bw t.val)
  |some (some (.bw d))=>some (.bw d)
  |_=>none
def Xmu (G:D->Dst->(Dst->Prop)->Prop)(Eo:DO)(ds:List D)(δ:Dst)(P:OV->Prop):Prop:=∃W:Nat->Dst->List OV->Prop,W 0 δ []/\
 (∀i d δ ts,ds[i]?=some d->W i δ ts->ts.length<1000000/\G d δ λδ'=>Eo δ' λr=>W (i+1) δ' (ts++[r]))/\∀δ ts,W ds.length δ ts->P (.nl ts)
def Ymq (I:DA)(ix:List (Option Nat))(G:D->Dst->(Dst->Prop)->Prop)(Eo:DO):DO:=λδ P=>I δ λds=>Xmu G Eo ds (Yfx ix δ) P
theorem ER.blk {A:Nat->List Addr}(e:ER K F0 H0 F H Y δ A)(ix:List (Option Nat))(s:Xbj H H'): ER K F H F H' (Xma ix Y) (Yfx ix δ) (λ_=>[]):=by
 have get:∀(j:Nat) (s:Sl),(Yfx ix δ)[j]?=some (some s)->∃(i:Nat) (v:V),(Xma ix Y)[j]?=some (some v)/\Y[i]?=some (some v)/\((∃d,s = .own (.fz d)/\Rep K F d v)∨∃d,s = .bw d/\Rep K H d v):=by
  intro j s hj
  unfold Yfx at hj
  rw[getElem?_map]at hj
  cases q:ix[j]? with
  |none=>rw[q]at hj;cases hj
  |some o=>
   rw[q]at hj
   cases o with
   |none=>cases hj
   |some i=>
    have fin:∀v,Y[i]?=some (some v)->(Xma ix Y)[j]?=some (some v):=λv hv=>by
     unfold Xma
     rw[getElem?_map,q]
     simp[hv]
    have hj':=Option.some.inj hj
    dsimp only at hj'
    split at hj'
    .rename_i d hd
     cases hj'
     obtain⟨v,h1,h2⟩:=e.own i _ hd
     exact⟨i,v,fin v h1,h1,.inl ⟨d,rfl,h2.2⟩⟩
    .rename_i u d hd
     cases hj'
     obtain⟨v,h1,h2⟩:=e.own i _ hd
     exact⟨i,v,fin v h1,h1,.inl ⟨d,rfl,h2.2.2⟩⟩
    .rename_i t _ _ hd
     cases hj'
     obtain⟨v,h1,h2⟩:=e.own i _ hd
     exact⟨i,v,fin v h1,h1,.inr ⟨_,rfl,h2.rep e.ext.fh λa _ xs z=>z⟩⟩
    .rename_i d hd
     cases hj'
     obtain⟨v,h1,h2⟩:=e.bw i _ hd
     exact⟨i,v,fin v h1,h1,.inr ⟨_,rfl,h2.mono e.ext.hh⟩⟩
    .cases hj'
 refine⟨by simp[Xma,Yfx],Ext.grow e.ext.fh s,λj t hj=>?_,λj d hj=>?_,λ_=>nodup_nil,(λ_ _ _ _ h=>by cases h),(λ_ _ h=>by cases h)⟩
 .obtain ⟨i,v,h1,h2,h3⟩:=get j _ hj
  rcases h3 with⟨d,h3,h4⟩ | ⟨d,h3,_⟩
  .cases h3;exact⟨v,h1,rfl,h4⟩
  .cases h3
 .obtain ⟨i,v,h1,h2,h3⟩:=get j _ hj
  rcases h3 with⟨d',h3,h4⟩ | ⟨d',h3,h4⟩
  .cases h3
  .cases h3;exact⟨v,h1,h4⟩
theorem Xc4 {G:D->Dst->(Dst->Prop)->Prop}(hi:Yb4 K wi I)(hg:Yjn K g G)(he:Xjx K te Eo): Xjx K (Xoj wi ix g te) (Ymq I ix G Eo):=λF0 H0 F H Y δ P Q e w q=>
 hi F0 H0 F H Y δ _ _ e w λds J F1 H1 p x1 hJ=>by
  intro L hL
  obtain⟨A,e⟩:=e.on x1
  obtain⟨W,w0,ws,wd⟩:=p
  have f1:Xbj F1 H1:=x1.fh
  refine⟨λi m Y ys H=>m=ds.length-i/\i<=ds.length/\∃F δ ts B,ER K F1 H1 F H Y δ (λ_=>[])/\W i δ ts/\F L=none/\H L=some (.lst ys)/\Xa3 K F H ts ys B/\(L::B).Nodup/\∀b∈B,H1 b=none/\F b=none,
   ⟨ds.length,rfl,zero_le _,F1,_,[],[],e.blk ix (Xbj.new hL),w0,f1.free hL,Xay,⟨rfl,rfl⟩,by simp,λ_ h=>by cases h⟩,?_⟩
  rintro i m Y2 ys H2 ⟨rfl,hil,F2,δ2,ts,B,e2,w2,l1,l2,hr,nd,nw⟩
  obtain⟨j1,j2,j3⟩:=hJ F2 H2 e2.ext.ff e2.ext.fh
  by_cases hlt:i<ds.length
  .obtain ⟨d0,hd0⟩:∃d,ds[i]?=some d:=⟨_,getElem?_eq_getElem hlt⟩
   have hl:=hr.length
   refine .inr ⟨Xwm (by have:=(ws i d0 δ2 ts hd0 w2).1;lia),j1 i hlt,λx H3 y=>?_⟩
   obtain⟨d,F3,hd,x3,r3⟩:=j3 i x H3 hlt y
   refine hg F1 H1 F3 H3 Y2 δ2 (λ_=>[]) d x _ _ (e2.on x3) r3 (ws i d δ2 ts hd w2).2 λY4 δ4 A4 w4 e4 sub=>?_
   have e4':ER K F1 H1 F3 H3 Y4 δ4 (λ_=>[]):=by
    have:A4=λ_=>[]:=funext λk=>List.eq_nil_iff_forall_not_mem.mpr λb hb=>by cases sub k b hb
    rw[this]at e4;exact e4
   refine he F1 H1 F3 H3 Y4 δ4 _ _ ⟨_,e4'⟩ w4 λr v F5 H5 p5 x5 n5=>?_
   have x25:=x3.trans x5
   have l5:=x25.hh _ _ l2
   have l5f:=x25.no L _ l1 l2 rfl
   refine⟨l5,ds.length-(i+1),by lia,rfl,hlt,F5,δ4,ts++[r],?_⟩
   obtain⟨C,c1,c2,c3⟩:=n5
   obtain⟨n1,n2⟩:=nodup_cons.mp nd
   have hLC:L∉C:=λz=>by
    have q:=(c3 L z).1
    rw[x3.hh _ _ l2]at q;cases q
   have hBC:∀b,b∈B->b∉C:=λb hb z=>by
    obtain⟨xs,q,himm⟩:=hr.isl b hb
    have:=(c3 b z).1
    rw[x3.hh _ _ q]at this;cases this
   have e5:=e4'.on x5
   refine⟨B++C,⟨e5.len,⟨e5.ext.ff,λb o h=>?_,λb o h=>?_,e5.ext.no⟩,λj t hj=>?_,e5.bw,e5.nod,e5.dis,λ_ _ h=>by cases h⟩,p5,l5f,Xay,?_,?_,λb hb=>?_⟩
   .exact Xav (λz=>by rw[z,hL]at h;cases h) (e5.ext.hh _ _ h)
   .exact Xav (λz=>by rw[z,l5f]at h;cases h) (e5.ext.fh _ _ h)
   .obtain ⟨u,h1,h2⟩:=e5.own j t hj
    exact⟨u,h1,h2.frame (Xbj.refl _) λ_ z=>by cases z⟩
   .exact Xa3.append (hr.frame x25.ff λb hb xs z=>Xav (λq=>n1 (by rw[<- q];exact hb)) (x25.hh _ _ z)) (Xa3.one (c1.frame (Xbj.refl _) λb hb xs z=>Xav (λq=>hLC (by rw[<- q];exact hb)) z))
   .refine nodup_cons.mpr ⟨λz=>?_,nodup_append.mpr ⟨n2,c2,λx hx y hy z=>by subst z;exact hBC x hx hy⟩⟩
    rcases mem_append.mp z with z |z
    .exact n1 z
    .exact hLC z
   .rcases mem_append.mp hb with z |z
    .obtain ⟨xs,qq,himm⟩:=hr.isl b z
     exact⟨(nw b z).1,x25.no b _ (nw b z).2 qq himm⟩
    .exact ⟨(e2.ext.hh.trans x3.hh).free (c3 b z).1,(c3 b z).2⟩
  .have hi':i=ds.length:=by lia
   subst hi'
   refine .inl ⟨j2,q _ _ F2 H2 (wd _ _ w2) (x1.trans e2.ext) ⟨L::B,⟨L,ys,B,rfl,rfl,l2,hr⟩,nd,λb hb=>?_⟩⟩
   rcases mem_cons.mp hb with rfl |z
   .exact ⟨x1.hh.free hL,l1⟩
   .exact ⟨x1.hh.free (nw b z).1,(nw b z).2⟩
def Xeo (N:List Str)(ds:List D):Dst:=ds.map (λd=>some (.own (.fz d)))++List.replicate (N.length-ds.length) none
theorem Xhi (s:Xbj F H)(h:Xb1 K F ds vs): ER K F H F H (Xd3 N vs) (Xeo N ds) (λ_=>[]):=by
 have hl:=h.length
 refine⟨by simp[Xd3,Xeo,hl],Ext.refl s,λi t hi=>?_,λi d hi=>?_,λ_=>nodup_nil,(λ_ _ _ _ h=>by cases h),(λ_ _ h=>by cases h)⟩
 .unfold Xeo at hi
  by_cases z:i<ds.length
  .rw [getElem?_append_left (by simpa using z),getElem?_map,getElem?_eq_getElem z]at hi
   simp at hi
   subst hi
   obtain⟨v,h1,h2⟩:=h.get (getElem?_eq_getElem z)
   refine⟨v,?_,rfl,h2⟩
   unfold Xd3
   rw[getElem?_append_left (by simp;lia),getElem?_map,h1]
   rfl
  .rw [getElem?_append_right (by simpa using z)]at hi
   have:=mem_of_getElem? hi
   rw[mem_replicate]at this
   cases this.2
 .unfold Xeo at hi
  by_cases z:i<ds.length
  .rw [getElem?_append_left (by simpa using z),getElem?_map]at hi
   simp at hi
  .rw [getElem?_append_right (by simpa using z)]at hi
   have:=mem_of_getElem? hi
   rw[mem_replicate]at this
   cases this.2
end
theorem CalV.of {P:Program}{w:World}{K:Frag}{mg:Str->Option Value}{base:Heap}{x:Str}{st:Stmt}{f:Addr}{fd:FuncData}{N ps:List Str}{k n:Nat}{sp:DSp}(Df:DefAt K mg x st f fd)(S:FnScope N ps (Xae st))
  (hb:∀(kV doc pm:Value) (an:Option Addr) (cdv ct:Value) (us:List Value),us.length=ps.length->bindArgs (fnOf x x (Xb5 st) (Xbi st) (Xae st) .none kV doc pm an cdv ct) ⟨us,[]⟩=pure (ps.zip us)) (hn:n=ps.length)
  (hbody:∀(cdv:Value) (A:Around) (outer:List Env) (s:Shared) (H:Hp) (E:XK),Room k (A.deeper (envOfC x (Xae st) s.heap.objs.size f cdv))->
   ∃t T,PSs (Xjs CX0 P w K mg base N x (Xae st) f cdv A outer s H E).nox (Xbi st) t/\Xc3 K t T/\∀ds Pr,sp ds Pr->T {nx:=λ_=>Pr (.fz .non),rt:=Pr} (Xeo N ds)):Cal P w K mg base x (k+1) ps (spV K n sp):=
 Cal.of Df S hb (λvs H Q E h=>by rw[<- hn];exact h.1) λcdv A outer s H vs Q E hr h=>by
  obtain⟨_,F,ds,Pr,hs,hr',hsp,hq⟩:=h
  obtain⟨t,T,h1,h2,h3⟩:=hbody cdv A outer s H E hr
  refine⟨t,h1,h2 F H F H (Xd3 N vs) (Xeo N ds) {nx:=λ_=>Pr (.fz .non),rt:=Pr} _ ⟨_,Xhi hs hr'⟩ ⟨λF' H' Y δ e p=>?_,λ_ _ _ _ _ z=>z.elim,λ_ _ _ _ _ z=>z.elim,λF' H' r v x n p=>hq r v F' H' p x n⟩ (h3 ds Pr hsp)⟩
  exact hq _ _ F' H' p e.ext (.fz rfl)
section
variable {X:Cx}{K:Frag}
def D.tyN:D->String
 | .int _ => "int"
 | .bl _ => "bool"
 | .non => "NoneType"
 | .str _ => "str"
 | .ty _ => "type"
 | .fn _ => "function"
 | .tup _ => "tuple"
 | .lst _ => "list"
 | .dic => "dict"
 | .exc _ => "exception"
 | .obj _ _ _ => "object"
def Yky (K:Frag):List V->Hp->VK->Prop:=λxs H Q=>∃d v n b,xs=[v,.ty n]/\Rep K H d v/\((∀m,d≠.ty m)/\(∀x,d≠.fn x)/\(∀x,d≠.exc x)/\∀c ns ds,d≠.obj c ns ds)/\kitOne K (.type d.tyN) (.type n)=some b/\Q (.bl b) H
theorem Xd2:Xhb X (.builtin "isinstance") (Yky X.K):=by
 intro pins s Y H xs us Q I r h
 obtain⟨d,x,n,b,rfl,rp,⟨hty,hfn,hex,hany⟩,e,q⟩:=h
 obtain⟨u,w',rfl,r1,r2⟩:=Yfz r
 cases r2
 have fin:∀tk,EP X pins Y Q (.bool b) {s with toks:=tk}:=λtk=>⟨.bl b,H,I.tok tk,rfl,q⟩
 cases d with
 |int i=>cases rp;exact Xkq I r1 (TyOf.int i) e fin
 |bl i=>cases rp;exact Xkq I r1 (TyOf.bl i) e fin
 |non=>cases rp;exact Xkq I r1 TyOf.non e fin
 |str i=>cases rp;exact Xkq I r1 (TyOf.str i) e fin
 |ty i=>exact absurd rfl (hty i)
 |fn i=>exact absurd rfl (hfn i)
 |tup ds=>
  obtain⟨a,vs,rfl,h1,h2⟩:=rp
  cases (show u=Value.ref a from r1)
  obtain⟨its,rv,p,hz⟩:=I.tuple h1
  obtain⟨o,q1,q2,_⟩:=p
  exact kia_one kitx_tuple I.kIn ⟨o,q1,q2⟩ e (λz=>nomatch z) fin
 |lst ds=>
  obtain⟨a,vs,rfl,h1,h2⟩:=rp
  cases (show u=Value.ref a from r1)
  obtain⟨its,rv,p,hz⟩:=I.list h1
  obtain⟨o,q1,q2,_⟩:=p.isList
  exact kia_one kitx_list I.kIn ⟨o,q1,q2⟩ e (λz=>nomatch z) fin
 |dic=>
  obtain⟨a,rfl,h1⟩:=rp
  cases (show u=Value.ref a from r1)
  obtain⟨⟨o,q1,q2⟩,_,_⟩:=I.hok a _ h1
  exact kia_one kitx_dict I.kIn ⟨o,q1,q2⟩ e (λz=>nomatch z) fin
 |exc c=>exact absurd rfl (hex c)
 |obj c ns ds=>exact absurd rfl (hany c ns ds)
def Ylq (d:D)(n:String):Bool:=match d with
 | .int _=>n == "int"
 | .bl _=>n == "bool" ||n == "int"
 | .str _=>n == "str"
 | .tup _=>n == "tuple"
 | .lst _=>n == "list"
 |_=>false
def Xs0:List String:=["int","bool","str","tuple","list"]
structure KitV (K:Frag):Prop where
 all:∀d:D,((∀m,d≠.ty m)/\(∀x,d≠.fn x)/\(∀x,d≠.exc x)/\∀c ns ds,d≠.obj c ns ds)->∀n∈Xs0,kitOne K (.type d.tyN) (.type n)=some (Ylq d n)
def Yn4:List D->(D->Prop)->Prop:=λds P=>match ds with
 | [.ty _,.ty _]=>False
 | [.fn _,.ty _]=>False
 | [.exc _,.ty _]=>False
 | [.obj _ _ _,.ty _]=>False
 | [d,.ty n]=>n∈Xs0/\P (.bl (Ylq d n))
 |_=>False
theorem Xly (KT:KitV K): CbS K (Yky K) Yn4:=λF H ds vs P Q s rs w q=>by
 unfold Yn4 at w
 split at w
 .exact w.elim
 .exact w.elim
 .exact w.elim
 .exact w.elim
 .rename_i d n h1 h0 h2 h3
  obtain⟨v,u,rfl,r1,r2⟩:=Xza rs
  have ht:∀m,d≠.ty m:=λm z=>h1 m z
  have hf:∀m,d≠.fn m:=λm z=>h0 m z
  have hx:∀m,d≠.exc m:=λm z=>h2 m z
  have hy:∀c ns ds,d≠.obj c ns ds:=λc ns ds z=>h3 c ns ds z
  exact⟨d,v,n,_,by rw[show u=_ from r2],r1,⟨ht,hf,hx,hy⟩,KT.all d ⟨ht,hf,hx,hy⟩ n w.1,q _ _ F H w.2 (Ext.refl s) rfl⟩
 .exact w.elim
theorem Ynx {g:Int->Int->Int}: OpS K (ipI g) (rI2 λi j=>.int (g i j)):=λF H x y v u P Q s rx ry w q=>by
 obtain⟨i,j,rfl,rfl,p⟩:=Xzf w
 exact⟨i,j,rx,ry,q _ _ F H p (Ext.refl s) rfl⟩
theorem Yby {α:Type}{a:α}{xs:List α}:atI (a::xs) 0=some a:=Xc7 rfl
theorem Ymz {α:Type}{a b:α}{xs:List α}:atI (a::b::xs) 1=some b:=Xc7 rfl
theorem Ymy {α:Type}{a b c:α}{xs:List α}:atI (a::b::c::xs) 2=some c:=Xc7 rfl
theorem Ymx {α:Type}{a b c d:α}{xs:List α}:atI (a::b::c::d::xs) 3=some d:=Xc7 rfl
theorem Ymw {α:Type}{a b c d e:α}{xs:List α}:atI (a::b::c::d::e::xs) 4=some e:=Xc7 rfl
theorem Xha {xs:List Int}{i:Int}(h0:0<=i)(h:i<xs.length):atI (xs.map D.int) i=some (.int (xs.getD i.toNat 0)):=by
 have hi:i.toNat<xs.length:=by lia
 have e:=Xc7 (xs:=xs.map D.int) (j:=i.toNat) (v:=.int (xs.getD i.toNat 0)) (by simp[hi])
 rwa[show ((i.toNat:Nat):Int)=i by lia]at e
theorem Yo4 (h1 : -1000000<=i)(h2:i<=1000000): Ym2 i j:=.inl ⟨by lia,by lia⟩
theorem Ydg {α β:Type}{xs:List α}{f:α->β}{i:Nat}{d:β}(h:(xs.map f)[i]?=some d):∃x,xs[i]?=some x/\d=f x:=by
 rw[getElem?_map]at h
 cases q:xs[i]? with
 |none=>rw[q]at h;cases h
 |some x=>rw[q]at h;exact⟨x,rfl,(Option.some.inj h).symm⟩
theorem Yf0 {xs:List Int}:List.map OV.val (xs.map λx=>OV.fz (D.int x))=xs.map D.int:=by
 rw[map_map];rfl
theorem Yix {xs:List Int}{i:Int}(h0:0<=i)(h:i<xs.length):(xs.map λx=>OV.fz (D.int x))[i.toNat]?=some (.fz (.int (xs.getD i.toNat 0))):=by
 have hi:i.toNat<xs.length:=by lia
 simp[hi]
theorem Ygi {xs:List Int}{i:Nat}{v:Int}:(xs.map λx=>OV.fz (D.int x)).set i (.fz (.int v))=(xs.set i v).map λx=>OV.fz (D.int x):=by
 rw[List.map_set]
theorem Yjh:(xs.map λx=>OV.fz (D.int x))++[.fz (.int v)]=(xs++[v]).map λx=>OV.fz (D.int x):=by
 rw[map_append];rfl
theorem Yl7 {xs:List Int}:(xs.map D.int).map OV.fz=xs.map λx=>OV.fz (D.int x):=by
 rw[map_map];rfl
theorem Ylp:("int"∈Xs0)=True:=eq_true (by decide)
theorem Yik:("bool"∈Xs0)=True:=eq_true (by decide)
theorem Ydm:("tuple"∈Xs0)=True:=eq_true (by decide)
theorem Yij:("list"∈Xs0)=True:=eq_true (by decide)
theorem Xmu.map {α:Type}{Eo:DO}{o:Option Sl}{Xis:Dst}{P:OV->Prop}(xs:List α)(g:α->D)(f:α->OV)(hn:xs.length<=1000000)
  (h:∀x∈xs,∀Q:OV->Prop,Q (f x)->Eo (some (.own (.fz (g x)))::Xis) Q) (k:P (.nl (xs.map f))):Xmu (gN 0) Eo (xs.map g) (o::Xis) P:=by
 refine⟨λi δ ts=>∃o,δ=o::Xis/\ts=(xs.take i).map f,⟨o,rfl,rfl⟩,?_,?_⟩
 .rintro i d δ ts hd ⟨o,rfl,rfl⟩
  obtain⟨x,hx,rfl⟩:=Ydg hd
  obtain⟨hi,e⟩:=List.getElem?_eq_some_iff.mp hx
  refine⟨by rw[length_map,length_take];lia,h x (mem_of_getElem? hx) _ ⟨_,rfl,?_⟩⟩
  rw[List.take_succ_eq_append_getElem hi,e,map_append]
  rfl
 .rintro δ ts ⟨o,rfl,rfl⟩
  rw[length_map,take_length]
  exact k
theorem Xmu.rng {Eo:DO}{o:Option Sl}{Xis:Dst}{P:OV->Prop}{lo c:Int}{n:Nat}(f:Nat->OV)(hn:n<=1000000)
  (h:∀i,i<n->∀Q:OV->Prop,Q (f i)->Eo (some (.own (.fz (.int (lo+i*c))))::Xis) Q) (k:P (.nl ((List.range n).map f))):Xmu (gN 0) Eo (rng lo c n) (o::Xis) P:=
 Xmu.map (List.range n) _ f (by simpa using hn) (λi hi Q q=>h i (mem_range.mp hi) Q q) k
theorem Yeh (h:∀N:Dst->Prop,(∀δ',U De δ'->N δ')->T {De with nx:=N} δ): Ym4 T U De δ:=h _ λ_ z=>z
end
end L2
namespace PySem
open AutoSeq1
abbrev Xxh (T:String)(od:Option Addr)(xs:Array Value)(k:Nat)(sl:Array (Option Value)):Obj:={cls:=.type T,dict:=od,data:=.seq xs k,slots:=sl}
theorem Xo1 (l b:Addr)(xs ys:Array Value)(k m:Nat)(od:Option Addr)(sl:Array (Option Value))(h0:¬(!xs.isEmpty && Builtin.List.listTooLong (xs.size+ys.size))=true)(h1:xs.size<=sizeLine)(h2:xs.size+ys.size<=sizeLine+1):
  Meets (Builtin.«list.extend» ⟨[.ref l,.ref b],[]⟩) (λ_ R s=>s.heap.get? l=some (Xxh "list" none xs k #[])/\s.heap.get? b=some (Xxh "list" od ys m sl)/\R (.ok (.ret .none)) {s with heap:=s.heap.update l (Obj.mapSeq (·++ys)),toks:=s.toks}):=by
 refine .of_wp λprog w A R s hR=>?_
 obtain⟨e1,e2,fin⟩:=hR
 have room:(xs++ys).size<=sizeLine+1:=by
  rw[size_append]
  exact h2
 wp_walk using (wpAny_updateSeq e1 rfl (_hz':=room)),wpAny_loadPart' e1,wpAny_loadPart' e2
 exact⟨_,rfl,fin⟩
theorem Xnp (l b:Addr)(xs ys:Array Value)(k m:Nat)(od:Option Addr)(sl:Array (Option Value))(h0:¬(!xs.isEmpty && Builtin.List.listTooLong (xs.size+ys.size))=true)(h1:xs.size<=sizeLine)(h2:xs.size+ys.size<=sizeLine+1):
  Meets (Builtin.«list.extend» ⟨[.ref l,.ref b],[]⟩) (λ_ R s=>s.heap.get? l=some (Xxh "list" none xs k #[])/\s.heap.get? b=some (Xxh "tuple" od ys m sl)/\R (.ok (.ret .none)) {s with heap:=s.heap.update l (Obj.mapSeq (·++ys)),toks:=s.toks}):=by
 refine .of_wp λprog w A R s hR=>?_
 obtain⟨e1,e2,fin⟩:=hR
 have room:(xs++ys).size<=sizeLine+1:=by
  rw[size_append]
  exact h2
 wp_walk using (wpAny_updateSeq e1 rfl (_hz':=room)),wpAny_loadPart' e1,wpAny_loadPart' e2
 exact⟨_,rfl,fin⟩
theorem Xug (l b:Addr)(xs ys:Array Value)(k m:Nat)(od oe:Option Addr)(sl sm:Array (Option Value))(h0:xs.size+ys.size<=sizeLine):
  Meets (Builtin.«list.__add__» ⟨[.ref l,.ref b],[]⟩) (λ_ R s=>s.heap.get? l=some (Xxh "list" od xs k sl)/\s.heap.get? b=some (Xxh "list" oe ys m sm)/\R (.ok (.ret (.ref s.heap.objs.size))) {s with heap:=s.heap.push {cls:=.type "list",data:=.seq (xs++ys)},toks:=s.toks}):=by
 refine .of_wp λprog w A R s hR=>?_
 obtain⟨e1,e2,fin⟩:=hR
 have i3:=sub_list_list
 wp_walk using wpAny_loadPart' e1,wpAny_loadPart' e2
 exact⟨_,rfl,fin⟩
end PySem
namespace L2
open PySem PySem.Spec PyProof.Rows
section
variable {X:Cx}{K:Frag}
def Xvj (K:Frag):V->List V->Hp->VK->Prop:=λx vs H Q=>∃l b xs zs,x = .ref l/\vs=[.ref b]/\H l=some (.lst xs)/\(SqL K H b zs∨SqT K H b zs)/\xs.length+zs.length<=sizeLine/\Q .non (upd H l (.lst (xs++zs)))
theorem Xxd:MtM X "list.extend" (Xvj X.K):=by
 intro pins s Y H x vs v us Q I rx rv h
 obtain⟨l,b,xs,zs,rfl,rfl,hH,hB,hz,q⟩:=h
 cases rx
 obtain⟨u,rfl,ru⟩:=rv.one
 cases ru
 obtain⟨z,its,n,r,hl,e⟩:=I.lstM hH
 have room:∀ys:List Value,ys.length=zs.length->its.toArray.size+ys.toArray.size<=sizeLine:=λys hy=>by rw[size_toArray,size_toArray];lia
 have fits:∀ys:List Value,ys.length=zs.length->¬ (!its.toArray.isEmpty && Builtin.List.listTooLong (its.toArray.size+ys.toArray.size))=true:=λys hy=>by
  rw[Xvp (room ys hy),Bool.and_false]
  exact Bool.false_ne_true
 have fin:∀ys:List Value,Xbz zs ys->EP X pins Y Q .none {s with heap:=s.heap.update l (Obj.mapSeq (·++ys.toArray)),toks:=s.toks}:=λys ry=>
  ⟨.non,_,I.lset (its':=its++ys) hH e (by simp) (r.append ry) (by rw[length_append];omega),rfl,q⟩
 rcases hB with hB |hB
 .obtain ⟨ys,ry,⟨o,m,e2,o1,o2,o3⟩,_⟩:=I.list hB
  obtain⟨oc,od,oda,osl⟩:=o
  subst o1 o3
  have hy:=ry.length
  exact call_meets F.slot_list_extend ⟨_,e,rfl⟩ F.entry_list_extend (F.args_list_extend_2 _ _) (Xo1 l b its.toArray ys.toArray n m od osl (fits ys hy.symm) (by rw[size_toArray];lia) (by have:=room ys hy.symm;lia)) ⟨e,e2,fin ys ry⟩
 .obtain ⟨ys,ry,⟨o,e2,o1,m,o3⟩,_⟩:=I.tuple hB
  obtain⟨oc,od,oda,osl⟩:=o
  subst o1 o3
  have hy:=ry.length
  exact call_meets F.slot_list_extend ⟨_,e,rfl⟩ F.entry_list_extend (F.args_list_extend_2 _ _) (Xnp l b its.toArray ys.toArray n m od osl (fits ys hy.symm) (by rw[size_toArray];lia) (by have:=room ys hy.symm;lia)) ⟨e,e2,fin ys ry⟩
def Yhi (K:Frag):R2:=λx y H Q=>∃l b xs zs,x = .ref l/\y = .ref b/\SqL K H l xs/\SqL K H b zs/\xs.length+zs.length<=sizeLine/\∀p H',H p=none->Xbj H H'->H' p=some (.lst (xs++zs))->Q (.ref p) H'
theorem Xfl:OpR X (binaryOp .Add) (Yhi X.K):=by
 intro pins s Y H x y v u Q I rx ry h
 obtain⟨l,b,xs,zs,rfl,rfl,hA,hB,hz,q⟩:=h
 cases rx
 cases ry
 obtain⟨its,r,⟨o,n,e,o1,o2,o3⟩,_⟩:=I.list hA
 obtain⟨its2,r2,⟨o',n2,e2,p1,p2,p3⟩,_⟩:=I.list hB
 obtain⟨oc,od,oda,osl⟩:=o
 obtain⟨pc,pd,pda,psl⟩:=o'
 subst o1 o3 p1 p3
 have l1:=r.length
 have l2:=r2.length
 refine PySem.concat_meets ⟨_,e,rfl⟩ ⟨_,e2,rfl⟩ PySem.noFill_list_add PySem.seq_list_add F.slot_list_add F.entry_list_add (F.args_list_add_2 _ _) (Xug l b its.toArray its2.toArray n n2 od pd osl psl (by rw[size_toArray,size_toArray];lia)) ⟨e,e2,?_⟩
 have ea:its.toArray++its2.toArray=(its++its2).toArray:=by simp
 rw[ea]
 exact⟨.ref _,_,I.lnew (t':=s.toks) (r.append r2) (by rw[length_append];omega),rfl,q _ _ I.fresh (Xbj.new I.fresh) Xay⟩
def Yi8 (Ea Eb:DE):DO:=λδ P=>Ea δ λx=>Eb δ λy=>match x,y with
 | .lst xs,.lst ys=>xs.length+ys.length<=1000000/\P (.nl ((xs++ys).map .fz))
 |_,_=>False
theorem Xgo (ha:Xdi K ta Ea)(hb:Xdi K tb Eb): Xjx K (tOp (Yhi K) ta tb) (Yi8 Ea Eb):=λF0 H0 F H Y δ P Q e w q=>
 ha F0 H0 F H Y δ _ _ e w λx v F1 H1 w1 x1 r1=>hb F0 H0 F1 H1 Y δ _ _ (e.on x1) w1 λy u F2 H2 w2 x2 r2=>by
  have x12:=x1.trans x2
  split at w2
  .obtain ⟨p,vs,rfl,h1,h2⟩:=r1.mono x2.ff
   obtain⟨p',vs',rfl,h1',h2'⟩:=r2
   have l1:=h2.length
   have l2:=h2'.length
   exact⟨p,p',vs,vs',rfl,rfl,x2.fh.seq h1,x2.fh.seq h1',Xd0 (by lia),λl H' l0 sm lq=>q _ _ F2 H' w2.2 (x12.trans (Ext.grow x2.fh sm)) (Xlg.list (x12.hh.free l0) (x2.fh.free l0) lq (h2.append h2'))⟩
  .exact w2.elim
def Itw (K:Frag)(a:Addr)(n:Nat):It:=
 ⟨λi H=>∃xs x,SqL K H a xs/\xs.length=n/\i<n/\xs[n-1-i]?=some x,λi H x H'=>H'=H/\∀xs,SqL K H a xs->xs[n-1-i]?=some x,λi _=>n<=i⟩
theorem Xx6 (a it:Addr)(n:Nat): Turn P w K tg (Itw K a n) [it] it (λi h=>i<=n/\h.IsRevIter it a ((n:Int)-1-(i:Nat))) where
 mem:=by simp
 obj:=λi h st b hb=>by
  have e:b=it:=by simpa using hb
  subst e
  obtain⟨_,o,ho,_,hd⟩:=st
  exact⟨o,ho,λv z=>by rw[hd]at z;cases z⟩
 keep:=λi h h' st k=>⟨st.1,st.2.at λo e=>k it (by simp) o e⟩
 item:=by
  kj_on
  obtain⟨xs,x,hq,hn,hi,hx⟩:=hg
  obtain⟨its,rv,p,hz⟩:=I.list hq
  obtain⟨u,hu,ru⟩:=rv.get hx
  obtain⟨f0,f1,f2,f3,f4,f5⟩:=hf it (by simp)
  have st0:s.heap.IsRevIter it a (((n-1-i:Nat)):Int):=by
   have e:(((n-1-i:Nat)):Int)=(n:Int)-1-(i:Nat):=by lia
   rw[e];exact st.2
  refine PySem.wpAny_pyNext_rev_item st0 p.isList (by simpa using hu) λh' st' sb=>?_
  have I1:Inv X pins Y H {s with heap:=h',toks:=s.toks}:=I.turned (t':=s.toks) (λb o hb e=>(sb.2 b hb).trans e) f0 f1 f3 f4 f5
  have st1:h'.IsRevIter it a ((n:Int)-1-((i+1:Nat):Int)):=by
   have e:(n:Int)-1-((i+1:Nat):Int)=(((n-1-i:Nat)):Int)-1:=by lia
   rw[e];exact st'
  obtain⟨o,ho,hc',hd'⟩:=id st1
  exact⟨u,rfl,Xui (s:={s with heap:=h',toks:=s.toks}) (n := "list_reverseiterator") ho hc' hd' rfl ⟨x,H,I1,ru,⟨rfl,λys hy=>by rw[I.list_inj hy hq];exact hx⟩,⟨by lia,st1⟩,λb hb=>(hf b hb).1⟩⟩
 done:=by
  intro X hP hw hK hc i pins s Y H E I hf st hg
  obtain⟨f0,f1,f2,f3,f4,f5⟩:=hf it (by simp)
  have st0:s.heap.IsRevIter it a (-1):=by
   have h2:n<=i:=hg
   have e:(-1:Int)=(n:Int)-1-(i:Nat):=by lia
   rw[e];exact st.2
  exact PySem.wpAny_pyNext_rev_end (I.ok.hd hc) st0 λh' eb=>⟨rfl,I.turned (t':=s.toks) (λb o hb e=>eb b o hb e) f0 f1 f3 f4 f5⟩
 self:=λ_ _ _ _ _ st h=>PySem.wpAny_pyIter_revIter st.2 h
def Yl5 (K:Frag)(ta:TA):TI:=λY H R=>ta Y H λvs H1=>∃a xs,vs=[.ref a]/\SqL K H1 a xs/\R (Itw K a xs.length) H1
theorem Xr9 (hg:Gl X "reversed")(hm:X.mg "reversed"=none)(ha:PA X [l] ta)(hs:starEach [l] X.env=[(false,eval l X.env)]:=by rfl): PI X tg (.Call (.Name "reversed" p) [l] [] pos) (Yl5 X.K ta):=by
 intro pins s Y H R I h
 refine Call_ (Xkp I hg hm PyProof.Rows.boot_reversed (PyProof.Rows.callWith_type1 (thn (ha pos pins s Y H _ I h) λus s1 ⟨vs,H1,I1,r1,q1⟩=>?_) hs rfl))
 obtain⟨a,xs,e,hq,q⟩:=q1
 subst e
 obtain⟨u,rfl,ru⟩:=Xhg r1
 cases ru
 obtain⟨its,rv,pt,hz⟩:=I1.list hq
 have hl:=rv.length
 refine PySem.call_reversed_list pt.isList ?_
 have e0:(s1.heap.push (revObj a ((its.toArray.size:Int)-1))).IsRevIter s1.heap.objs.size a ((xs.length:Int)-1-((0:Nat):Int)):=by
  have e:(xs.length:Int)-1-((0:Nat):Int)=(its.toArray.size:Int)-1:=by rw[size_toArray];lia
  rw[e]
  exact⟨_,get?_push_size _ rfl,rfl,rfl⟩
 refine PySem.wpAny_pyIter_revIter e0 ?_
 refine⟨s1.heap.objs.size,[s1.heap.objs.size],_,_,H1,rfl,I1.kept (t':=s1.toks) λb o e=>get?_push_of_some _ e,Xx6 a _ xs.length,⟨zero_le _,e0⟩,λb hb=>?_,q⟩
 have e:b=s1.heap.objs.size:=by simpa using hb
 subst e
 exact I1.fpOk (Nat.le_refl _) (I1.hok.fresh (Nat.le_refl _))
def Ymi (As:DA):DA:=λδ P=>As δ λds=>match ds with
 | [.lst xs]=>P xs.reverse
 |_=>False
theorem Ygw (h:Xjy K a As): Yb4 K (Yl5 K a) (Ymi As):=λF0 H0 F H Y δ P R e w q=>h F0 H0 F H Y δ _ _ e w λds vs F' H' p x r=>by
 split at p
 .obtain ⟨v,rfl,a,us,rfl,h1,h2⟩:=Xhe r
  have hl:=h2.length
  refine⟨a,us,rfl,x.fh.seq h1,q _ _ F' H' p x λF1 H1 s1 s2=>?_⟩
  have hq:=(s1.trans s2).seq h1
  rw[length_reverse]
  refine⟨λi hi=>⟨us,us[us.length-1-i]'(by omega),hq,rfl,by lia,getElem?_eq_getElem (by omega)⟩,by show us.length<=_;lia,λi x H2 hi y=>?_⟩
  obtain⟨rfl,y⟩:=y
  obtain⟨d,hd,rd⟩:=h2.get' (y us hq)
  refine⟨d,F1,?_,Ext.refl s2,rd.mono s1⟩
  rw[getElem?_reverse hi,hl];exact hd
 .exact p.elim
theorem ER.frz {A:Nat->List Addr}(e:ER K F0 H0 F H Y δ A)(i:Nat)(hi:δ[i]?=some (some (.own t))): ∃F',Xek K F0 H0 F' H Y (δ.set i (some (.own (.fz t.val)))):=by
 obtain⟨v,hv,hr⟩:=e.own i t hi
 have hlt:=(List.getElem?_eq_some_iff.mp hi).1
 have sm:Xbj F λa=>if a∈A i then H a else F a:=λb o z=>by
  have hb:b∉A i:=λy=>by rw[(e.new i b y).1]at z;cases z
  dsimp only
  rw[if_neg hb];exact z
 refine⟨λa=>if a∈A i then H a else F a,λj=>if j=i then [] else A j,by simp[e.len],⟨e.ext.ff.trans sm,e.ext.hh,λb o z=>?_,λb o z1 z2 z3=>?_⟩,λj u hj=>?_,λj d hj=>?_,λj=>?_,λj k a hjk h1 h2=>?_,λj a ha=>?_⟩
 .split at z
  .exact z
  .exact e.ext.fh _ _ z
 .have hb:b∉A i:=λy=>by rw[(e.new i b y).2.1]at z2;cases z2
  rw[if_neg hb];exact e.ext.no b o z1 z2 z3
 .by_cases z:j=i
  .subst z
   rw[if_pos rfl]
   rw[getElem?_set_self hlt]at hj
   cases hj
   exact⟨v,hv,rfl,hr.rep sm λa ha xs q=>by rw[if_pos ha];exact q⟩
  .rw [if_neg z]
   rw[getElem?_set_ne (Ne.symm z)]at hj
   obtain⟨v',h1,h2⟩:=e.own j u hj
   exact⟨v',h1,h2.frame sm λa _ xs q=>q⟩
 .by_cases z:j=i
  .subst z
   rw[getElem?_set_self hlt]at hj
   cases hj
  .rw [getElem?_set_ne (Ne.symm z)]at hj
   exact e.bw j d hj
 .split
  .exact nodup_nil
  .exact e.nod j
 .split at h1
  .cases h1
  .split at h2
   .cases h2
   .exact e.dis j k a hjk h1 h2
 .split at ha
  .cases ha
  .rename_i z
   obtain⟨h1,h2,h3⟩:=e.new j a ha
   refine⟨?_,h2,h3⟩
   rw[if_neg λy=>e.dis j i a z ha y];exact h1
def Ynk (i:Nat)(T:DS):DS:=λDe δ=>match δ[i]? with
 |some (some (.own t))=>T De (δ.set i (some (.own (.fz t.val))))
 |_=>False
theorem Xyx (i:Nat)(h:Xc3 K t T): Xc3 K t (Ynk i T):=λF0 H0 F H Y δ De En ⟨A,e⟩ l w=>by
 unfold Ynk at w
 split at w
 .rename_i u hu
  obtain⟨F',e'⟩:=e.frz i hu
  exact h F0 H0 F' H Y _ De En e' l w
 .exact w.elim
def Yg9 (i:Nat)(Ei:DE)(E:DO):DS:=λDe δ=>match δ[i]? with
 |some (some (.own (.nl ts)))=>Ei δ λk=>match k with
  | .int k=>0<=k/\∃us,ts[k.toNat]?=some (.nl us)/\us.length<1000000/\E δ λr=>De.nx (δ.set i (some (.own (.nl (ts.set k.toNat (.nl (us++[r])))))))
  |_=>False
 |_=>False
theorem Xf6 {α:Type}{xs:List α}{i:Nat}{v:α}(h:xs[i]?=some v):xs.set i v=xs:=by
 obtain⟨hi,e⟩:=List.getElem?_eq_some_iff.mp h
 rw[<- e];exact List.set_getElem_self hi
theorem Ygq {i:Nat}{ti te:TE}{Ei:DE}{Eo:DO}(hi:Xe6 K ti Ei)(h:Xjx K te Eo):Xc3 K (Xpx (tBM K "list" rAppend (tOp (Ym6 K) (Xod i) ti) (Xfr te Xoi))) (Yg9 i Ei Eo):=λF0 H0 F H Y δ De En e l w=>by
 obtain⟨A,e⟩:=e
 unfold Yg9 at w
 split at w
 .rename_i ts hs
  obtain⟨v,hv,a,vs,B,rfl,eA,ha,hB⟩:=e.own i _ hs
  refine⟨_,hv,?_⟩
  refine hi F0 H0 F H Y δ _ _ ⟨A,e⟩ w λk kv F1 H1 p x1 r1=>?_
  split at p
  .rename_i k
   obtain⟨k0,us,hk,hus,p⟩:=p
   have e1:=e.on x1
   have ha1:=x1.hh _ _ ha
   have hB1:Xa3 K F1 H1 ts vs B:=hB.frame x1.ff λb _ xs z=>x1.hh _ _ z
   obtain⟨v0,A1,B0,A2,f1,rfl,f3,f4⟩:=hB1.focus hk
   obtain⟨c,ws,B1,rfl,rfl,hc,hws⟩:=f3
   have at1:atI vs k=some (.ref c):=by
    have:=Xc7 f1
    rwa[show ((k.toNat:Nat):Int)=k by lia]at this
   refine⟨a,vs,k,.ref c,rfl,r1,SqL.of ha1,at1,.inl ⟨rfl,_,SqL.of hc⟩,?_⟩
   refine h F0 H0 F1 H1 Y δ _ _ ⟨A,e1⟩ p λr u F2 H2 p2 x2 n=>?_
   obtain⟨C,c1,c2,c3⟩:=n
   have e2:=e1.on x2
   have hl:=hws.length
   refine⟨c,ws,u,rfl,rfl,x2.hh _ _ hc,Xwm (by lia),?_⟩
   have hnd:=e.nod i
   rw[eA]at hnd
   have hA:A i=a::(A1++(c::B1++A2)):=eA
   obtain⟨n1,n2⟩:=nodup_cons.mp hnd
   obtain⟨m1,m2,m3⟩:=nodup_append.mp n2
   obtain⟨q1,q2,q3⟩:=nodup_append.mp m2
   obtain⟨s1,s2⟩:=nodup_cons.mp q1
   have hCA:∀j b,b∈C->b∉A j:=λj b hb z=>by
    obtain⟨_,_,xs,q,_⟩:=e1.new j b z
    rw[(c3 b hb).1]at q;cases q
   have hcA:c∈A i:=by rw[hA];simp
   have hac:a≠c:=λz=>n1 (by rw[z];simp)
   have hcC:c∉C:=λz=>hCA i c z hcA
   have off:∀b∈A1++A2,b≠c:=λb hb z=>by
    subst z
    rcases mem_append.mp hb with y |y
    .exact m3 b y b (by simp) rfl
    .exact q3 b (by simp) b y rfl
   have ina:∀b,b∈a::(A1++(c::(B1++C)++A2))->b∈A i∨b∈C:=λb hb=>by
    rw[hA]
    simp only[mem_cons,mem_append,cons_append]at hb ⊢
    rcases hb with z |z |z | (z |z) |z<;>simp[z]
   have f4':=f4 F2 (upd H2 c (.lst (ws++[u]))) (.nl (us++[r])) (.ref c) (c::(B1++C)) x2.ff (λb hb xs z=>Xav (off b hb) (x2.hh _ _ z))
    ⟨c,ws++[u],B1++C,rfl,rfl,Xay,Xa3.append (hws.frame x2.ff λb hb xs z=>Xav (λy=>s1 (by rw[<- y];exact hb)) (x2.hh _ _ z)) (Xa3.one (c1.frame (Xbj.refl _) λb hb xs z=>Xav (λy=>hcC (by rw[<- y];exact hb)) z))⟩
   rw[Xf6 f1]at f4'
   refine l.nx F2 _ Y _ (e2.change i hv (t':=.nl (ts.set k.toNat (.nl (us++[r])))) (B:=a::(A1++(c::(B1++C)++A2))) ⟨a,vs,_,rfl,rfl,Xav hac (x2.hh _ _ ha1),f4'⟩ ?_ ?_ ?_ ?_) p2
   .have dC:∀x∈C,∀y∈A i,x≠y:=λx hx y hy z=>hCA i x hx (by rw[z];exact hy)
    rw[hA]at dC
    simp only[cons_append,nodup_cons,nodup_append,mem_cons,mem_append,not_or]at hnd n1 n2 m1 m2 m3 q1 q2 q3 s1 s2 ⊢
    refine⟨⟨n1.1,n1.2.1,⟨n1.2.2.1,λz=>dC a z a (by simp) rfl⟩,n1.2.2.2⟩,m1,⟨⟨⟨s1,hcC⟩,λz=>?_⟩,⟨s2,c2,λx hx y hy z=>dC y hy x (by simp[hx]) z.symm⟩,q2,λx hx y hy z=>?_⟩,λx hx y hy z=>?_⟩
    .exact q3 c (by simp) c z rfl
    .rcases hx with hx |hx
     .exact q3 x (by simp[hx]) y hy z
     .exact dC x hx y (by simp[hy]) z
    .rcases hy with hy | (hy |hy) |hy
     .exact m3 x hx y (by simp[hy]) z
     .exact m3 x hx y (by simp[hy]) z
     .exact dC y hy x (by simp[hx]) z.symm
     .exact m3 x hx y (by simp[hy]) z
   .intro b hb
    rcases ina b hb with z |z
    .exact ⟨(e2.new i b z).1,(e2.new i b z).2.1⟩
    .exact ⟨(c3 b z).2,e1.ext.hh.free (c3 b z).1⟩
   .intro j hj b hb z
    rcases ina b hb with y |y
    .exact e.dis j i b hj z y
    .exact hCA j b y z
   .intro b o hb q
    exact Xav (λz=>hb (by rw[z];exact hcA)) q
  .exact p.elim
 .exact w.elim
def Ynm (i:Nat)(E:DE):DS:=λDe δ=>match δ[i]? with
 |some (some (.own (.nl ts)))=>E δ λd=>match d with
  | .lst ds=>ts.length+ds.length<=1000000/\De.nx (δ.set i (some (.own (.nl (ts++ds.map .fz)))))
  | .tup ds=>ts.length+ds.length<=1000000/\De.nx (δ.set i (some (.own (.nl (ts++ds.map .fz)))))
  |_=>False
 |_=>False
theorem Yki (h:Xdi K te E): Xc3 K (Xpx (tBM K "list" (Xvj K) (Xod i) (Xfr te Xoi))) (Ynm i E):=λF0 H0 F H Y δ De En e l w=>by
 obtain⟨A,e⟩:=e
 unfold Ynm at w
 split at w
 .rename_i ts hs
  obtain⟨v,hv,a,vs,B,rfl,eA,ha,hB⟩:=e.own i _ hs
  refine⟨_,hv,.inl ⟨rfl,_,SqL.of ha⟩,?_⟩
  refine h F0 H0 F H Y δ _ _ ⟨A,e⟩ w λd u F1 H1 p x1 r1=>?_
  have e1:=e.on x1
  have hl:=hB.length
  have hB1:Xa3 K F1 H1 ts vs B:=hB.frame x1.ff λb _ xs z=>x1.hh _ _ z
  have hnd:=e.nod i
  rw[eA]at hnd
  obtain⟨n1,n2⟩:=nodup_cons.mp hnd
  have fin:∀(ds:List D) (us:List V),Xb1 K F1 ds us->De.nx (δ.set i (some (.own (.nl (ts++ds.map .fz)))))->En.nx Y (upd H1 a (.lst (vs++us))):=λds us hu p=>by
   refine l.nx F1 _ Y _ (e1.change i hv (t':=.nl (ts++ds.map .fz)) (B:=a::(B++[])) ⟨a,vs++us,B++[],rfl,rfl,Xay,?_⟩ ?_ ?_ ?_ ?_) p
   .exact Xa3.append (hB1.frame (Xbj.refl _) λb hb xs z=>Xav (λq=>n1 (by rw[<- q];exact hb)) z) (Xa3.fzs hu)
   .rw [append_nil];exact hnd
   .intro b hb
    rw[append_nil,<- eA]at hb
    exact⟨(e1.new i b hb).1,(e1.new i b hb).2.1⟩
   .intro j hj b hb z
    rw[append_nil,<- eA]at hb
    exact e.dis j i b hj z hb
   .intro b o hb q
    exact Xav (λz=>hb (by rw[eA,z];exact mem_cons_self)) q
  split at p
  .obtain ⟨c,us,rfl,q1,q2⟩:=r1
   have:=q2.length
   exact⟨a,c,vs,us,rfl,rfl,x1.hh _ _ ha,.inl (x1.fh.seq q1),Xd0 (by lia),fin _ us q2 p.2⟩
  .obtain ⟨c,us,rfl,q1,q2⟩:=r1
   have:=q2.length
   exact⟨a,c,vs,us,rfl,rfl,x1.hh _ _ ha,.inr (x1.fh.seqT q1),Xd0 (by lia),fin _ us q2 p.2⟩
  .exact p.elim
 .exact w.elim
end
def catTD:DR2:=λx y P=>match x,y with
 | .tup xs,.tup ys=>xs≠[]/\ys≠[]/\xs.length+ys.length<=1000000/\P (.tup (xs++ys))
 |_,_=>False
def D.fit:Nat->D->Bool
 |_,.int _=>true
 |_,.str _=>true
 |_,.non=>true
 |_,.bl _=>true
 |_,.ty _=>false
 |_,.fn _=>false
 |_,.dic=>false
 |_,.exc _=>false
 |_,.obj _ _ _=>false
 | 0,.tup _=>false
 | 0,.lst _=>false
 |n+1,.tup ds=>ds.all (D.fit n)
 |n+1,.lst ds=>ds.all (D.fit n)
mutual
def D.eqb:D->D->Bool
 | .int i,.int j=>decide (i=j)
 | .str x,.str y=>decide (x=y)
 | .non,.non=>true
 | .bl a,.bl b=>a==b
 | .bl a,.int j=>decide ((if a then 1 else 0)=j)
 | .int i,.bl b=>decide (i=if b then 1 else 0)
 | .tup xs,.tup ys=>D.eqbs xs ys
 | .lst xs,.lst ys=>D.eqbs xs ys
 |_,_=>false
def D.eqbs:List D->List D->Bool
 | [],[]=>true
 |x::xs,y::ys=>D.eqb x y && D.eqbs xs ys
 |_,_=>false
end
mutual
theorem D.eqb_refl:∀{d:D} {n:Nat},d.fit n=true->D.eqb d d=true
 | .int _,_,_=>by simp[D.eqb]
 | .str _,_,_=>by simp[D.eqb]
 | .non,_,_=>by simp[D.eqb]
 | .bl _,_,_=>by simp[D.eqb]
 | .ty _,_,h=>by simp[D.fit]at h
 | .fn _,_,h=>by simp[D.fit]at h
 | .dic,_,h=>by simp[D.fit]at h
 | .exc _,_,h=>by simp[D.fit]at h
 | .obj _ _ _,_,h=>by simp[D.fit]at h
 | .tup ds,0,h=>by simp[D.fit]at h
 | .lst ds,0,h=>by simp[D.fit]at h
 | .tup ds,n+1,h=>by
  simp only[D.eqb]
  exact D.eqbs_refl (n:=n) (by simpa only[D.fit] using h)
 | .lst ds,n+1,h=>by
  simp only[D.eqb]
  exact D.eqbs_refl (n:=n) (by simpa only[D.fit] using h)
theorem D.eqbs_refl:∀{ds:List D} {n:Nat},ds.all (D.fit n)=true->D.eqbs ds ds=true
 | [],_,_=>by simp[D.eqbs]
 |d::ds,n,h=>by
  rw[all_cons,and_eq_true]at h
  simp only[D.eqbs,D.eqb_refl h.1,D.eqbs_refl h.2,Bool.and_self]
end
def D.same:D->D->Bool
 | .tup _,.tup _=>true
 | .lst _,.lst _=>true
 |_,_=>false
def Ypa:DR2:=λx y P=>x.same y=true/\x.fit 4=true/\y.fit 4=true/\P (.bl (D.eqb x y))
def Yo3:DR2:=λx y P=>x.same y=true/\x.fit 4=true/\y.fit 4=true/\P (.bl (!D.eqb x y))
def Yod:List D->(D->Prop)->Prop:=λds P=>match ds with
 | [.lst xs]=>∃bs:List Bool,xs=bs.map D.bl/\P (.bl (bs.all id))
 |_=>False
def Yic:List D->(D->Prop)->Prop:=λds P=>match ds with
 | [.lst xs]=>∃ns:List Int,xs=ns.map D.int/\0<ns.length/\∀M:Int,M∈ns->(∀a∈ns,a<=M)->P (.int M)
 |_=>False
def Yfh (E:DE):DT:=λδ P=>E δ λd=>match d with
 | .bl b=>P b
 | .int i=>P (decide (i≠0))
 | .lst xs=>P (!xs.isEmpty)
 | .tup xs=>P (!xs.isEmpty)
 | .non=>P false
 |_=>False
def Ykm (i:Nat)(Ek Em E:DE):DS:=λDe δ=>E δ λd=>match δ[i]? with
 |some (some (.own (.nl ts)))=>Ek δ λk=>match k with
  | .int k=>∃j us,ixN ts.length k=some j/\ts[j]?=some (.nl us)/\Em δ λm=>match m with
   | .int m=>∃l,ixN us.length m=some l/\De.nx (δ.set i (some (.own (.nl (ts.set j (.nl (us.set l (.fz d))))))))
   |_=>False
  |_=>False
 |_=>False
def Xpz {α:Type}(xs:List α)(c:Int):List α:=(sliceRange 0 xs.length c).filterMap (xs[·]?)
def Ymf (Ea Ec:DE):DO:=λδ P=>Ea δ λx=>Ec δ λc=>match x,c with
 | .lst xs,.int c=>0<c/\P (.nl ((Xpz xs c).map .fz))
 |_,_=>False
section
variable {K:Frag}{X:Cx}
def eD (xs ys:List D)(j:Nat):Bool:=match xs[j]?,ys[j]? with
 |some x,some y=>D.eqb x y
 |_,_=>true
theorem Xfg:∀(xs ys:List D),D.eqbs xs ys=((List.range (min xs.length ys.length)).all (eD xs ys) && xs.length==ys.length)
 | [],[]=>by simp[D.eqbs]
 | [],_::_=>by simp[D.eqbs]
 |_::_,[]=>by simp[D.eqbs]
 |x :: xs,y::ys=>by
  have ih:=Xfg xs ys
  simp only[D.eqbs,length_cons]
  rw[show min (xs.length+1) (ys.length+1)=min xs.length ys.length+1 by lia,List.range_succ_eq_map,all_cons,all_map,ih]
  have e0:eD (x::xs) (y::ys) 0=D.eqb x y:=rfl
  have e1:(eD (x::xs) (y::ys)∘Nat.succ)=eD xs ys:=by
   funext j
   simp[eD,Function.comp]
  rw[e0,e1,Bool.and_assoc]
  congr 2
  simp
theorem Xzb (I:Inv X pins Y H s): ∀(n:Nat) {x y:D} {v:V},x.fit n=true->y.fit n=true->Rep X.K H x v->Rep X.K H y v->D.eqb x y=true:=by
 have items:∀(n:Nat),(∀{x y:D} {v:V},x.fit n=true->y.fit n=true->Rep X.K H x v->Rep X.K H y v->D.eqb x y=true)->∀{xs ys:List D} {vs:List V},xs.all (D.fit n)=true->ys.all (D.fit n)=true->Xb1 X.K H xs vs->Xb1 X.K H ys vs->D.eqbs xs ys=true:=by
  intro n ih xs
  induction xs with
  |nil=>
   intro ys vs _ _ r1 r2
   cases r1
   cases ys with
   |nil=>rfl
   |cons y ys=>obtain⟨v,r,e,_⟩:=r2;cases e
  |cons x xs ihx=>
   intro ys vs f1 f2 r1 r2
   obtain⟨v,r,rfl,h1,h2⟩:=r1
   cases ys with
   |nil=>cases r2
   |cons y ys=>
    obtain⟨v',r',e,h3,h4⟩:=r2
    cases e
    rw[all_cons,and_eq_true]at f1 f2
    simp only[D.eqbs,ih f1.1 f2.1 h1 h3,ihx f1.2 f2.2 h2 h4,Bool.and_self]
 have tl:∀{a:Addr} {xs ys:List V},SqT X.K H a xs->SqL X.K H a ys->False:=λ{a xs ys} h1 h2=>by
  obtain⟨_,_,p1,_⟩:=I.tuple h1
  obtain⟨_,_,p2,_⟩:=I.list h2
  obtain⟨o,e1,c1,_⟩:=p1
  obtain⟨o',e2,c2,_⟩:=p2.isList
  rw[e1]at e2;cases e2
  rw[c1]at c2;simp at c2
 intro n
 induction n with
 |zero=>
  intro x y v fx fy rx ry
  cases x<;>cases y<;>simp[D.fit]at fx fy<;>simp[D.eqb]
  all_goals first
   | (have z:=(show v=_ from rx).symm.trans (show v=_ from ry);first | (injection z) | (cases z))
   |skip
 |succ n ih=>
  intro x y v fx fy rx ry
  cases x<;>cases y
  case tup.tup xs ys=>
   obtain⟨a,vs,rfl,h1,h2⟩:=rx
   obtain⟨b,us,e,h3,h4⟩:=ry
   cases e
   cases I.tuple_inj h1 h3
   simp only[D.eqb]
   exact items n ih (by simpa only[D.fit] using fx) (by simpa only[D.fit] using fy) h2 h4
  case lst.lst xs ys=>
   obtain⟨a,vs,rfl,h1,h2⟩:=rx
   obtain⟨b,us,e,h3,h4⟩:=ry
   cases e
   cases I.list_inj h1 h3
   simp only[D.eqb]
   exact items n ih (by simpa only[D.fit] using fx) (by simpa only[D.fit] using fy) h2 h4
  case tup.lst xs ys=>
   obtain⟨a,vs,rfl,h1,h2⟩:=rx
   obtain⟨b,us,e,h3,h4⟩:=ry
   cases e
   exact (tl h1 h3).elim
  case lst.tup xs ys=>
   obtain⟨a,vs,rfl,h1,h2⟩:=rx
   obtain⟨b,us,e,h3,h4⟩:=ry
   cases e
   exact (tl h3 h1).elim
  all_goals first
   | (simp[D.fit]at fx;done)
   | (simp[D.fit]at fy;done)
   | (have z:=(show v=_ from rx).symm.trans (show v=_ from ry);first | (cases z;done) | (injection z with z;simp[D.eqb,z];done) | (simp[D.eqb];done))
   | (obtain⟨a,vs,e,_⟩:=rx;have z:=e.symm.trans (show v=_ from ry);cases z;done)
   | (obtain⟨a,vs,e,_⟩:=ry;have z:=(show v=_ from rx).symm.trans e;cases z;done)
theorem Xv3 (I:Inv X pins Y H s): ∀(n:Nat) {A:Around} {x y:D} {v u:V} {a b:Value},A.units+n<cLine->x.fit n=true->y.fit n=true->Rep X.K H x v->Rep X.K H y u->Xdh v a->Xdh u b->SeqAt.EqAt A s a b (D.eqb x y):=by
 intro n
 induction n with
 |zero=>
  intro A x y v u a b hu fx fy rx ry ra rb
  by_cases hbl:(∃c,x = .bl c)∨∃c,y = .bl c
  .cases x<;>cases y<;>first | (simp[D.fit]at fx;done) | (simp[D.fit]at fy;done) | (rcases hbl with⟨c,z⟩ | ⟨c,z⟩<;>cases z;done) |skip
   case bl.bl=>cases (show v=_ from rx);cases (show u=_ from ry);cases ra;cases rb;simp only[D.eqb];exact SeqAt.EqAt.bool_bool _ _
   case bl.int=>cases (show v=_ from rx);cases (show u=_ from ry);cases ra;obtain⟨t,rfl⟩:=rb;simp only[D.eqb];rw[<- show ∀i j:Int,(i==j)=decide (i=j) from λi j=>by rw[Bool.eq_iff_iff];simp];exact SeqAt.EqAt.bool_int _ _ _
   case int.bl=>cases (show v=_ from rx);cases (show u=_ from ry);cases rb;obtain⟨t,rfl⟩:=ra;simp only[D.eqb];rw[<- show ∀i j:Int,(i==j)=decide (i=j) from λi j=>by rw[Bool.eq_iff_iff];simp];exact SeqAt.EqAt.int_bool _ _ _
   case bl.non=>cases (show v=_ from rx);cases (show u=_ from ry);cases ra;cases rb;exact SeqAt.EqAt.bool_none _
   case non.bl=>cases (show v=_ from rx);cases (show u=_ from ry);cases ra;cases rb;exact SeqAt.EqAt.none_bool _
   case bl.str=>cases (show v=_ from rx);cases (show u=_ from ry);cases ra;obtain⟨t,rfl⟩:=rb;exact SeqAt.EqAt.bool_str _ _ _
   case str.bl=>cases (show v=_ from rx);cases (show u=_ from ry);cases rb;obtain⟨t,rfl⟩:=ra;exact SeqAt.EqAt.str_bool _ _ _
  have key:Ydu v=true/\Ydu u=true/\eqV v u=D.eqb x y:=by
   cases x<;>cases y<;>first | (simp[D.fit]at fx;done) | (simp[D.fit]at fy;done) | (exact absurd (.inl ⟨_,rfl⟩) hbl) | (exact absurd (.inr ⟨_,rfl⟩) hbl) |skip
   all_goals
    have e1:v=_:=rx
    have e2:u=_:=ry
    subst e1 e2
    refine⟨rfl,rfl,?_⟩
    first |rfl | (simp[eqV,D.eqb];done) | (simp only[eqV,D.eqb];exact Bool.beq_eq_decide_eq _ _)
  rw[<- key.2.2]
  exact Ymc ra rb key.1 key.2.1
 |succ n ih=>
  intro A x y v u a b hu fx fy rx ry ra rb
  have hu0:A.units<cLine:=by lia
  have hu1:A.in1.units+n<cLine:=by rw[show A.in1.units=A.units+1 from rfl];lia
  cases x<;>cases y
  case tup.tup xs ys=>
   obtain⟨p,vs,rfl,h1,h2⟩:=rx
   obtain⟨q,us,rfl,h3,h4⟩:=ry
   cases ra
   cases rb
   by_cases hpq:p=q
   .subst hpq
    have:=Xzb I (n+1) fx fy (v:=.ref p) ⟨p,vs,rfl,h1,h2⟩ ⟨p,us,rfl,h3,h4⟩
    rw[this]
    exact SeqAt.EqAt.same _
   .obtain ⟨its,w1,p1,_⟩:=I.tuple h1
    obtain⟨its2,w2,p2,_⟩:=I.tuple h3
    have l1:=h2.length
    have l2:=h4.length
    have m1:=w1.length
    have m2:=w2.length
    simp only[D.fit]at fx fy
    have:=SeqAt.RcAt.tuples (e:=eD xs ys) p1 p2 hu0 (λj j1 j2=>by
     obtain⟨z1,e1,r1⟩:=w1.at j1
     obtain⟨z2,e2,r2⟩:=w2.at j2
     obtain⟨d1,g1,k1⟩:=h2.get' e1
     obtain⟨d2,g2,k2⟩:=h4.get' e2
     have e:eD xs ys j=D.eqb d1 d2:=by unfold eD;rw[g1,g2]
     rw[e]
     exact ih hu1 (all_eq_true.mp fx d1 (mem_of_getElem? g1)) (all_eq_true.mp fy d2 (mem_of_getElem? g2)) k1 k2 r1 r2)
    rw[show its.toArray.size=xs.length by rw[size_toArray];lia,show its2.toArray.size=ys.length by rw[size_toArray];lia,<- Xfg]at this
    simp only[D.eqb]
    exact SeqAt.EqAt.of_refs hpq this
  case lst.lst xs ys=>
   obtain⟨p,vs,rfl,h1,h2⟩:=rx
   obtain⟨q,us,rfl,h3,h4⟩:=ry
   cases ra
   cases rb
   by_cases hpq:p=q
   .subst hpq
    have:=Xzb I (n+1) fx fy (v:=.ref p) ⟨p,vs,rfl,h1,h2⟩ ⟨p,us,rfl,h3,h4⟩
    rw[this]
    exact SeqAt.EqAt.same _
   .obtain ⟨its,w1,p1,_⟩:=I.list h1
    obtain⟨its2,w2,p2,_⟩:=I.list h3
    have l1:=h2.length
    have l2:=h4.length
    have m1:=w1.length
    have m2:=w2.length
    simp only[D.fit]at fx fy
    simp only[D.eqb]
    refine SeqAt.EqAt.of_refs hpq ?_
    by_cases hl:xs.length=ys.length
    .have:=SeqAt.RcAt.lists (e:=eD xs ys) p1.isList p2.isList (by rw[size_toArray,size_toArray];lia) hu0 (λj j1 j2=>by
      obtain⟨z1,e1,r1⟩:=w1.at j1
      obtain⟨z2,e2,r2⟩:=w2.at j2
      obtain⟨d1,g1,k1⟩:=h2.get' e1
      obtain⟨d2,g2,k2⟩:=h4.get' e2
      have e:eD xs ys j=D.eqb d1 d2:=by unfold eD;rw[g1,g2]
      rw[e]
      exact ih hu1 (all_eq_true.mp fx d1 (mem_of_getElem? g1)) (all_eq_true.mp fy d2 (mem_of_getElem? g2)) k1 k2 r1 r2)
     rw[Xfg,<- hl,min_self,beq_self_eq_true,Bool.and_true]
     rw[show its.toArray.size=xs.length by rw[size_toArray];lia]at this
     exact this
    .rw [Xfg,show (xs.length==ys.length)=false by simpa using hl,Bool.and_false]
     exact SeqAt.RcAt.lists_lengths p1.isList p2.isList (by rw[size_toArray,size_toArray];simp only[bne_iff_ne,ne_eq];lia) hu0
  case tup.lst xs ys=>
   obtain⟨p,vs,rfl,h1,h2⟩:=rx
   obtain⟨q,us,rfl,h3,h4⟩:=ry
   cases ra
   cases rb
   obtain⟨its,w1,p1,_⟩:=I.tuple h1
   obtain⟨its2,w2,p2,_⟩:=I.list h3
   exact SeqAt.EqAt.tuple_list p1 p2.isList hu0
  case lst.tup xs ys=>
   obtain⟨p,vs,rfl,h1,h2⟩:=rx
   obtain⟨q,us,rfl,h3,h4⟩:=ry
   cases ra
   cases rb
   obtain⟨its,w1,p1,_⟩:=I.list h1
   obtain⟨its2,w2,p2,_⟩:=I.tuple h3
   exact SeqAt.EqAt.list_tuple p1.isList p2 hu0
  case bl.tup=>obtain⟨p,vs,rfl,h1,_⟩:=ry;cases rb;cases (show v=_ from rx);cases ra;obtain⟨its,w1,p1,_⟩:=I.tuple h1;exact SeqAt.EqAt.bool_tuple _ p1 hu0
  case bl.lst=>obtain⟨p,vs,rfl,h1,_⟩:=ry;cases rb;cases (show v=_ from rx);cases ra;obtain⟨its,w1,p1,_⟩:=I.list h1;exact SeqAt.EqAt.bool_list _ p1.isList hu0
  case ty.tup=>simp[D.fit]at fx
  case ty.lst=>simp[D.fit]at fx
  case fn.tup=>simp[D.fit]at fx
  case fn.lst=>simp[D.fit]at fx
  case dic.tup=>simp[D.fit]at fx
  case dic.lst=>simp[D.fit]at fx
  case exc.tup=>simp[D.fit]at fx
  case obj.tup=>simp[D.fit]at fx
  case obj.lst=>simp[D.fit]at fx
  case tup.obj=>simp[D.fit]at fy
  case lst.obj=>simp[D.fit]at fy
  case exc.lst=>simp[D.fit]at fx
  case tup.dic=>simp[D.fit]at fy
  case lst.dic=>simp[D.fit]at fy
  case tup.exc=>simp[D.fit]at fy
  case lst.exc=>simp[D.fit]at fy
  case tup.bl=>obtain⟨p,vs,rfl,h1,_⟩:=rx;cases ra;cases (show u=_ from ry);cases rb;obtain⟨its,w1,p1,_⟩:=I.tuple h1;exact SeqAt.EqAt.tuple_bool _ p1 hu0
  case lst.bl=>obtain⟨p,vs,rfl,h1,_⟩:=rx;cases ra;cases (show u=_ from ry);cases rb;obtain⟨its,w1,p1,_⟩:=I.list h1;exact SeqAt.EqAt.list_bool _ p1.isList hu0
  case tup.ty=>simp[D.fit]at fy
  case lst.ty=>simp[D.fit]at fy
  case tup.fn=>simp[D.fit]at fy
  case lst.fn=>simp[D.fit]at fy
  case tup.int=>obtain⟨p,vs,rfl,h1,_⟩:=rx;cases ra;cases (show u=_ from ry);obtain⟨t,rfl⟩:=rb;obtain⟨its,w1,p1,_⟩:=I.tuple h1;exact SeqAt.EqAt.tuple_int _ _ p1 hu0
  case tup.non=>obtain⟨p,vs,rfl,h1,_⟩:=rx;cases ra;cases (show u=_ from ry);cases rb;obtain⟨its,w1,p1,_⟩:=I.tuple h1;exact SeqAt.EqAt.tuple_none p1 hu0
  case tup.str=>obtain⟨p,vs,rfl,h1,_⟩:=rx;cases ra;cases (show u=_ from ry);obtain⟨t,rfl⟩:=rb;obtain⟨its,w1,p1,_⟩:=I.tuple h1;exact SeqAt.EqAt.tuple_str _ _ p1 hu0
  case lst.int=>obtain⟨p,vs,rfl,h1,_⟩:=rx;cases ra;cases (show u=_ from ry);obtain⟨t,rfl⟩:=rb;obtain⟨its,w1,p1,_⟩:=I.list h1;exact SeqAt.EqAt.list_int _ _ p1.isList hu0
  case lst.non=>obtain⟨p,vs,rfl,h1,_⟩:=rx;cases ra;cases (show u=_ from ry);cases rb;obtain⟨its,w1,p1,_⟩:=I.list h1;exact SeqAt.EqAt.list_none p1.isList hu0
  case lst.str=>obtain⟨p,vs,rfl,h1,_⟩:=rx;cases ra;cases (show u=_ from ry);obtain⟨t,rfl⟩:=rb;obtain⟨its,w1,p1,_⟩:=I.list h1;exact SeqAt.EqAt.list_str _ _ p1.isList hu0
  case int.tup=>obtain⟨p,vs,rfl,h1,_⟩:=ry;cases rb;cases (show v=_ from rx);obtain⟨t,rfl⟩:=ra;obtain⟨its,w1,p1,_⟩:=I.tuple h1;exact SeqAt.EqAt.int_tuple _ _ p1 hu0
  case non.tup=>obtain⟨p,vs,rfl,h1,_⟩:=ry;cases rb;cases (show v=_ from rx);cases ra;obtain⟨its,w1,p1,_⟩:=I.tuple h1;exact SeqAt.EqAt.none_tuple p1 hu0
  case str.tup=>obtain⟨p,vs,rfl,h1,_⟩:=ry;cases rb;cases (show v=_ from rx);obtain⟨t,rfl⟩:=ra;obtain⟨its,w1,p1,_⟩:=I.tuple h1;exact SeqAt.EqAt.str_tuple _ _ p1 hu0
  case int.lst=>obtain⟨p,vs,rfl,h1,_⟩:=ry;cases rb;cases (show v=_ from rx);obtain⟨t,rfl⟩:=ra;obtain⟨its,w1,p1,_⟩:=I.list h1;exact SeqAt.EqAt.int_list _ _ p1.isList hu0
  case non.lst=>obtain⟨p,vs,rfl,h1,_⟩:=ry;cases rb;cases (show v=_ from rx);cases ra;obtain⟨its,w1,p1,_⟩:=I.list h1;exact SeqAt.EqAt.none_list p1.isList hu0
  case str.lst=>obtain⟨p,vs,rfl,h1,_⟩:=ry;cases rb;cases (show v=_ from rx);obtain⟨t,rfl⟩:=ra;obtain⟨its,w1,p1,_⟩:=I.list h1;exact SeqAt.EqAt.str_list _ _ p1.isList hu0
  all_goals
   refine ih (by lia) ?_ ?_ rx ry ra rb
   .first |rfl | (simp[D.fit]at fx;done) | (simp[D.fit];done)
   .first |rfl | (simp[D.fit]at fy;done) | (simp[D.fit];done)
def Yo2 (K:Frag):R2:=λv u H Q=>∃x y,x.same y=true/\x.fit 4=true/\y.fit 4=true/\Rep K H x v/\Rep K H y u/\Q (.bl (D.eqb x y)) H
def Yoy (K:Frag):R2:=λv u H Q=>∃x y,x.same y=true/\x.fit 4=true/\y.fit 4=true/\Rep K H x v/\Rep K H y u/\Q (.bl (!D.eqb x y)) H
theorem Yev (hu:X.A.units+64<cLine): OpR X (compareOp .Eq) (Yo2 X.K):=by
 intro pins s Y H v u a b Q I ra rb h
 obtain⟨x,y,hs,fx,fy,rx,ry,q⟩:=h
 have hu0:X.A.units<cLine:=by lia
 have hu1:X.A.in1.units+3<cLine:=by rw[show X.A.in1.units=X.A.units+1 from rfl];lia
 cases x<;>cases y<;>first | (simp[D.same]at hs;done) |skip
 case tup.tup xs ys=>
  obtain⟨p,vs,rfl,h1,h2⟩:=rx
  obtain⟨p',us,rfl,h3,h4⟩:=ry
  cases ra
  cases rb
  obtain⟨its,w1,p1,_⟩:=I.tuple h1
  obtain⟨its2,w2,p2,_⟩:=I.tuple h3
  have l1:=h2.length
  have l2:=h4.length
  have m1:=w1.length
  have m2:=w2.length
  simp only[D.fit]at fx fy
  refine SeqAt.RcAt.tuples (e:=eD xs ys) p1 p2 hu0 (λj j1 j2=>by
   obtain⟨z1,e1,r1⟩:=w1.at j1
   obtain⟨z2,e2,r2⟩:=w2.at j2
   obtain⟨d1,g1,k1⟩:=h2.get' e1
   obtain⟨d2,g2,k2⟩:=h4.get' e2
   have e:eD xs ys j=D.eqb d1 d2:=by unfold eD;rw[g1,g2]
   rw[e]
   exact Xv3 I 3 hu1 (all_eq_true.mp fx d1 (mem_of_getElem? g1)) (all_eq_true.mp fy d2 (mem_of_getElem? g2)) k1 k2 r1 r2) _ _ _ _ ?_
  rw[show its.toArray.size=xs.length by rw[size_toArray];lia,show its2.toArray.size=ys.length by rw[size_toArray];lia,<- Xfg]
  simp only[D.eqb]at q
  exact⟨.bl _,H,I,rfl,q⟩
 case lst.lst xs ys=>
  obtain⟨p,vs,rfl,h1,h2⟩:=rx
  obtain⟨p',us,rfl,h3,h4⟩:=ry
  cases ra
  cases rb
  obtain⟨its,w1,p1,_⟩:=I.list h1
  obtain⟨its2,w2,p2,_⟩:=I.list h3
  have l1:=h2.length
  have l2:=h4.length
  have m1:=w1.length
  have m2:=w2.length
  simp only[D.fit]at fx fy
  simp only[D.eqb]at q
  rw[Xfg]at q
  by_cases hl:xs.length=ys.length
  .refine SeqAt.RcAt.lists (e:=eD xs ys) p1.isList p2.isList (by rw[size_toArray,size_toArray];lia) hu0 (λj j1 j2=>by
    obtain⟨z1,e1,r1⟩:=w1.at j1
    obtain⟨z2,e2,r2⟩:=w2.at j2
    obtain⟨d1,g1,k1⟩:=h2.get' e1
    obtain⟨d2,g2,k2⟩:=h4.get' e2
    have e:eD xs ys j=D.eqb d1 d2:=by unfold eD;rw[g1,g2]
    rw[e]
    exact Xv3 I 3 hu1 (all_eq_true.mp fx d1 (mem_of_getElem? g1)) (all_eq_true.mp fy d2 (mem_of_getElem? g2)) k1 k2 r1 r2) _ _ _ _ ?_
   rw[<- hl,min_self,beq_self_eq_true,Bool.and_true]at q
   rw[show its.toArray.size=xs.length by rw[size_toArray];lia]
   exact⟨.bl _,H,I,rfl,q⟩
  .rw [show (xs.length==ys.length)=false by simpa using hl,Bool.and_false]at q
   exact SeqAt.RcAt.lists_lengths p1.isList p2.isList (by rw[size_toArray,size_toArray];simp only[bne_iff_ne,ne_eq];lia) hu0 _ _ _ _ ⟨.bl _,H,I,rfl,q⟩
theorem Yle (hu:X.A.units+64<cLine): OpR X (compareOp .NotEq) (Yoy X.K):=by
 intro pins s Y H v u a b Q I ra rb h
 obtain⟨x,y,hs,fx,fy,rx,ry,q⟩:=h
 have hu0:X.A.units<cLine:=by lia
 have hu1:X.A.in1.units+3<cLine:=by rw[show X.A.in1.units=X.A.units+1 from rfl];lia
 cases x<;>cases y<;>first | (simp[D.same]at hs;done) |skip
 case tup.tup xs ys=>
  obtain⟨p,vs,rfl,h1,h2⟩:=rx
  obtain⟨p',us,rfl,h3,h4⟩:=ry
  cases ra
  cases rb
  obtain⟨its,w1,p1,_⟩:=I.tuple h1
  obtain⟨its2,w2,p2,_⟩:=I.tuple h3
  have l1:=h2.length
  have l2:=h4.length
  have m1:=w1.length
  have m2:=w2.length
  simp only[D.fit]at fx fy
  refine SeqAt.RcNeAt.tuples (e:=eD xs ys) p1 p2 hu0 (λj j1 j2=>by
   obtain⟨z1,e1,r1⟩:=w1.at j1
   obtain⟨z2,e2,r2⟩:=w2.at j2
   obtain⟨d1,g1,k1⟩:=h2.get' e1
   obtain⟨d2,g2,k2⟩:=h4.get' e2
   have e:eD xs ys j=D.eqb d1 d2:=by unfold eD;rw[g1,g2]
   rw[e]
   exact Xv3 I 3 hu1 (all_eq_true.mp fx d1 (mem_of_getElem? g1)) (all_eq_true.mp fy d2 (mem_of_getElem? g2)) k1 k2 r1 r2) _ _ _ _ ?_
  rw[show its.toArray.size=xs.length by rw[size_toArray];lia,show its2.toArray.size=ys.length by rw[size_toArray];lia,<- Xfg]
  simp only[D.eqb]at q
  exact⟨.bl _,H,I,rfl,q⟩
 case lst.lst xs ys=>
  obtain⟨p,vs,rfl,h1,h2⟩:=rx
  obtain⟨p',us,rfl,h3,h4⟩:=ry
  cases ra
  cases rb
  obtain⟨its,w1,p1,_⟩:=I.list h1
  obtain⟨its2,w2,p2,_⟩:=I.list h3
  have l1:=h2.length
  have l2:=h4.length
  have m1:=w1.length
  have m2:=w2.length
  simp only[D.fit]at fx fy
  simp only[D.eqb]at q
  rw[Xfg]at q
  by_cases hl:xs.length=ys.length
  .refine SeqAt.RcNeAt.lists (e:=eD xs ys) p1.isList p2.isList (by rw[size_toArray,size_toArray];lia) hu0 (λj j1 j2=>by
    obtain⟨z1,e1,r1⟩:=w1.at j1
    obtain⟨z2,e2,r2⟩:=w2.at j2
    obtain⟨d1,g1,k1⟩:=h2.get' e1
    obtain⟨d2,g2,k2⟩:=h4.get' e2
    have e:eD xs ys j=D.eqb d1 d2:=by unfold eD;rw[g1,g2]
    rw[e]
    exact Xv3 I 3 hu1 (all_eq_true.mp fx d1 (mem_of_getElem? g1)) (all_eq_true.mp fy d2 (mem_of_getElem? g2)) k1 k2 r1 r2) _ _ _ _ ?_
   rw[<- hl,min_self,beq_self_eq_true,Bool.and_true]at q
   rw[show its.toArray.size=xs.length by rw[size_toArray];lia]
   exact⟨.bl _,H,I,rfl,q⟩
  .rw [show (xs.length==ys.length)=false by simpa using hl,Bool.and_false]at q
   exact SeqAt.RcNeAt.lists_lengths p1.isList p2.isList (by rw[size_toArray,size_toArray];simp only[bne_iff_ne,ne_eq];lia) hu0 _ _ _ _ ⟨.bl _,H,I,rfl,q⟩
theorem Yey:OpS K (Yo2 K) Ypa:=λF H x y v u P Q s rx ry w q=>by
 obtain⟨hs,fx,fy,w⟩:=w
 exact⟨x,y,hs,fx,fy,rx,ry,q _ _ F H w (Ext.refl s) rfl⟩
theorem Yli:OpS K (Yoy K) Yo3:=λF H x y v u P Q s rx ry w q=>by
 obtain⟨hs,fx,fy,w⟩:=w
 exact⟨x,y,hs,fx,fy,rx,ry,q _ _ F H w (Ext.refl s) rfl⟩
end
structure BltV (mg:Str->Option Value):Prop extends Blt mg where
 abs:mg "abs"=none
 any:mg "any"=none
 sum:mg "sum"=none
 sorted:mg "sorted"=none
 set:mg "set"=none
 enumerate:mg "enumerate"=none
 dict:mg "dict"=none
 str:mg "str"=none
 divmod:mg "divmod"=none
 ord:mg "ord"=none
abbrev DTb:=List (Str×DSp)
def Ybm (i n:Nat)(tb:DTb)(As:DA):DO:=λδ P=>match δ[i]? with
 |some (some (.own (.fz (.fn x))))=>∃sp,(x,sp)∈tb/\As δ λds=>ds.length=n/\sp ds P
 |_=>False
def Xup (i n:Nat)(tb:DTb)(As:DA):DO:=λδ P=>match δ[i]? with
 |some (some (.own (.fz (.fn x))))=>∃sp,(x,sp)∈tb/\As δ λds=>ds.length=n/\sp ds λr=>r.lf=true/\P r
 |_=>False
abbrev DIO:=List OV->List D->(List OV->Prop)->Prop
def Xtz (i n:Nat)(sp:DIO)(As:DA):DS:=λDe δ=>match δ[i]? with
 |some (some (.own (.nl ts)))=>As δ λds=>ds.length+1=n/\sp ts ds λts'=>De.nx (δ.set i (some (.own (.nl ts'))))
 |_=>False
def Xjd (N:List Str)(a:Addr)(ts:List OV)(ds:List D):Dst:=some (.own (.rt a ts))::(ds.map (λd=>some (.own (.fz d)))++List.replicate (N.length-(ds.length+1)) none)
def Yni (i:Nat)(T:DS):DS:=λDe δ=>match δ[i]? with
 |some (some (.own (.rt a ts)))=>T {De with nx:=λδ'=>match δ'[i]? with
   |some (some (.own (.nl ts')))=>De.nx (δ'.set i (some (.own (.rt a ts'))))
   |_=>False} (δ.set i (some (.own (.nl ts))))
 |_=>False
def gB (i:Nat):D->Dst->(Dst->Prop)->Prop:=λd δ P=>P (δ.set i (some (.bw d)))
def Yfn (El:DE)(ix:List (Option Nat))(Eo:DO):DO:=λδ P=>El δ λd=>match d with
 | .lst ds=>Xmu (gB 0) Eo ds (Yfx ix δ) P
 |_=>False
section
variable {K:Frag}{X:Cx}{mg:Str->Option Value}
def Xq8 (K:Frag)(mg:Str->Option Value)(x:Str):Prop:=∃f,nsIn K mainGlobals x=some (some (.ref f))/\mg x=some (.ref f)
def tFn (K:Frag)(x:Str):TE:=λY H Q=>∃f,nsIn K mainGlobals x=some (some (.ref f))/\Q (.ref f) H
theorem Xnh (hg:Gl X x)(h:Xq8 X.K X.mg x)(hd:(x==("__debug__":Str))=false:=by decide): PE X (.Name x pos) (tFn X.K x):=by
 intro pins s Y H Q I ⟨f,e,q⟩
 obtain⟨f',e1,e2⟩:=h
 rw[e]at e1
 cases e1
 exact Xjp (v:=.ref f) hg e2 rfl hd pins s Y H Q I q
theorem Xne (h:Xq8 K mg x): Xdi K (tFn K x) (dC (.fn x)):=λF0 H0 F H Y δ P Q e w q=>by
 obtain⟨f,e1,_⟩:=h
 exact⟨f,e1,q _ _ F H w (Ext.refl e.ext.fh) ⟨f,rfl,e1⟩⟩
def Xye (mg:Str->Option Value)(i:Nat)(tb:List (Str×Sp))(t:TA):TE:=λY H Q=>∃x sp f,(x,sp)∈tb/\mg x=some (.ref f)/\Y[i]?=some (some (.ref f))/\t Y H λvs H1=>sp vs H1 Q E0
theorem Xzn (hn:PE X (.Name y p) (Xod i))(C:∀x sp,(x,sp)∈tb->∃ps,Cal X.prog X.w X.K X.mg X.base x k ps sp)(hr:Room k X.A)(ha:PA X (e::es) t)
  (he:starEach (e::es) X.env=(false,eval e X.env)::starEach es X.env:=by rfl) (hpl:(backTo pos (starEach es X.env)).any (·.1)=false:=by rfl):
  PE X (.Call (.Name y p) (e::es) [] pos) (Xye X.mg i tb t):=by
 intro pins s Y H Q I ⟨x,sp,f,hm,hmg,hs,h⟩
 obtain⟨ps,⟨f',fd,F,hm',hk,hb⟩⟩:=C x sp hm
 rw[hmg]at hm'
 cases hm'
 refine wpAny_Call_Name_kw (thn (hn pins s Y H (λv H1=>v = .ref f/\H1=H) I ⟨_,hs,rfl,rfl⟩) λu s1 ⟨v,H1,I1,r1,e1,e2⟩=>?_)
 subst e1 e2
 cases r1
 refine callWith_K I1.ok.mod.kin hk (thn (ha pos pins s1 Y H1 _ I1 h) λus s2 ⟨vs,H2,I2,r,q⟩=>⟨I2.kIn,?_⟩) he hpl
 exact Xvf F hr hb .nil Xzq I2 r (by rw[append_nil];exact q)
theorem Cal.mono (C:Cal P w K mg base x j ps sp)(h:j<=k): Cal P w K mg base x k ps sp:=by
 obtain⟨f,fd,F,a,b,c⟩:=C.ex
 exact⟨f,fd,F.mono h,a,b,c⟩
def tbV (K:Frag)(n:Nat)(tb:DTb):List (Str×Sp):=tb.map λp=>(p.1,spV K n p.2)
theorem Xx8 (h:∀p∈tb,∃ps,Cal P w K mg base p.1 k ps (spV K n p.2)): ∀x sp,(x,sp)∈tbV K n tb->∃ps,Cal P w K mg base x k ps sp:=λx sp hm=>by
 obtain⟨p,hp,e⟩:=mem_map.mp hm
 cases e
 exact h p hp
theorem Ycm (hN:∀p∈tb,Xq8 K mg p.1)(ha:Xjy K a As): Xjx K (Xye mg i (tbV K n tb) a) (Ybm i n tb As):=λF0 H0 F H Y δ P Q e w q=>by
 unfold Ybm at w
 split at w
 .rename_i x hx
  obtain⟨A,e⟩:=e
  obtain⟨v,hv,_,f,rfl,hf⟩:=e.own i _ hx
  obtain⟨sp,hm,w⟩:=w
  obtain⟨f',n1,n2⟩:=hN _ hm
  rw[hf]at n1
  cases n1
  refine⟨x,spV K n sp,f,mem_map.mpr ⟨_,hm,rfl⟩,n2,hv,?_⟩
  refine ha F0 H0 F H Y δ _ _ ⟨A,e⟩ w λds vs F1 H1 w1 x1 r1=>?_
  exact⟨by rw[<- r1.length];exact w1.1,F1,ds,P,x1.fh,r1,w1.2,λr v F' H' p x' r'=>q r v F' H' p (x1.trans x') (r'.old x1.hh)⟩
 .exact w.elim
theorem Xy2 (hN:∀p∈tb,Xq8 K mg p.1)(ha:Xoa K a As): Xjx K (Xye mg i (tbV K n tb) a) (Xup i n tb As):=λF0 H0 F H Y δ P Q e w q=>by
 unfold Xup at w
 split at w
 .rename_i x hx
  obtain⟨A,e⟩:=e
  obtain⟨v,hv,_,f,rfl,hf⟩:=e.own i _ hx
  obtain⟨sp,hm,w⟩:=w
  obtain⟨f',n1,n2⟩:=hN _ hm
  rw[hf]at n1
  cases n1
  refine⟨x,spV K n sp,f,mem_map.mpr ⟨_,hm,rfl⟩,n2,hv,?_⟩
  refine ha F0 H0 F H Y δ _ _ ⟨A,e⟩ w λds vs F1 H1 w1 x1 r1=>?_
  refine⟨by rw[<- r1.length];exact w1.1,H1,ds,_,Xbj.refl _,r1,w1.2,λr v F' H' p x' r'=>?_⟩
  have s1:Xbj F1 F':=x1.fh.trans x'.ff
  have x2:=Xff s1
  obtain⟨A,a1,a2,a3⟩:=r'
  refine q r v (Xun F1 F') H' p.2 (x1.trans ⟨x2.ff,x'.hh,x2.fh.trans x'.fh,λb o z1 z2 z3=>?_⟩) ⟨A,a1.lf s1 p.1,a2,λb hb=>⟨x1.hh.free (a3 b hb).1,x2.fh.free (a3 b hb).2⟩⟩
  exact x2.no b o z1 (x'.ff _ _ z2) z3
 .exact w.elim
def Ygc (K:Frag)(n:Nat)(sp:DIO):Sp:=spL n λvs H Q=>∃F a ts vs0 B Xis ds P,vs=V.ref a::Xis/\Xbj F H/\H a=some (.lst vs0)/\Xa3 K F H ts vs0 B/\(a::B).Nodup/\(∀b∈a::B,F b=none)/\Xb1 K F ds Xis/\sp ts ds P/\
 ∀ts' F' H' vs' B',P ts'->Xbj F F'->Xbj F' H'->(∀b o,b∉a::B->H b=some o->H' b=some o)->(∀b o,F b=none->H b=some o->imm o=false->b∉a::B->F' b=none)->H' a=some (.lst vs')->Xa3 K F' H' ts' vs' B'->(a::B').Nodup->
  (∀b∈a::B',F' b=none/\(b∈a::B∨H b=none))->Q .non H'
theorem Xrv (ha:Xjy K a As): Xc3 K (Xpx (Xyf (Ygc K n sp) [] E0 (Xfr (Xod i) a))) (Xtz i n sp As):=λF0 H0 F H Y δ De En e l w=>by
 obtain⟨A,e⟩:=e
 unfold Xtz at w
 split at w
 .rename_i ts hs
  obtain⟨v,hv,p,vs,B,rfl,eA,hp,hB⟩:=e.own i _ hs
  refine⟨_,hv,?_⟩
  refine ha F0 H0 F H Y δ _ _ ⟨A,e⟩ w λds us F1 H1 w1 x1 r1=>?_
  show Ygc K n sp ((V.ref p::us)++[]) H1 (λ_ H2=>En.nx Y H2) E0
  rw[append_nil]
  have e1:=e.on x1
  have hnd:=e.nod i
  rw[eA]at hnd
  have hlt:i<δ.length:=(List.getElem?_eq_some_iff.mp hs).1
  refine⟨by rw[length_cons,<- r1.length];exact w1.1,F1,p,ts,vs,B,us,ds,_,rfl,x1.fh,x1.hh _ _ hp,hB.frame x1.ff λb _ xs z=>x1.hh _ _ z,hnd,λb hb=>(e1.new i b (by rw[eA];exact hb)).1,r1,w1.2,?_⟩
  intro ts' F' H' vs' B' pt sF sH keep nofz hp' hB' nd' nw'
  refine l.nx F' H' Y _ ⟨λj=>if j=i then p::B' else A j,?_⟩ pt
  refine⟨by simp[e.len],⟨e1.ext.ff.trans sF,λb o h=>?_,sH,λb o h1 h2 h3=>?_⟩,λj t hj=>?_,λj d hj=>?_,λj=>?_,λj k b hjk h1 h2=>?_,λj b hb=>?_⟩
  .exact keep b o (λz=>by rw[(e1.new i b (by rw[eA];exact z)).2.1]at h;cases h) (e1.ext.hh _ _ h)
  .exact nofz b o (e1.ext.no b o h1 h2 h3) (e1.ext.hh _ _ h2) h3 (λz=>by rw[(e1.new i b (by rw[eA];exact z)).2.1]at h2;cases h2)
  .by_cases z:j=i
   .subst z
    rw[if_pos rfl]
    rw[getElem?_set_self hlt]at hj
    cases hj
    exact⟨_,hv,p,vs',B',rfl,rfl,hp',hB'⟩
   .rw [if_neg z]
    rw[getElem?_set_ne (Ne.symm z)]at hj
    obtain⟨u,h1,h2⟩:=e1.own j t hj
    exact⟨u,h1,h2.frame sF λb hb xs q=>keep b _ (λy=>e.dis j i b z hb (by rw[eA];exact y)) q⟩
  .by_cases z:j=i
   .subst z
    rw[getElem?_set_self hlt]at hj
    cases hj
   .rw [getElem?_set_ne (Ne.symm z)]at hj
    exact e1.bw j d hj
  .split
   .exact nd'
   .exact e.nod j
  .have key:∀k,k≠i->b∈p::B'->b∈A k->False:=λk hk z1 z2=>by
    rcases (nw' b z1).2 with y |y
    .exact e.dis k i b hk z2 (by rw[eA];exact y)
    .obtain ⟨_,_,xs,q,_⟩:=e1.new k b z2
     rw[y]at q;cases q
   split at h1
   .split at h2
    .lia
    .rename_i z1 z2
     exact key k z2 h1 h2
   .split at h2
    .rename_i z1 z2
     exact key j z1 h2 h1
    .exact e.dis j k b hjk h1 h2
  .split at hb
   .have hh:H0 b=none:=by
     rcases (nw' b hb).2 with y |y
     .exact (e1.new i b (by rw[eA];exact y)).2.1
     .exact e1.ext.hh.free y
    refine⟨(nw' b hb).1,hh,?_⟩
    rcases mem_cons.mp hb with y |y
    .rw [y];exact⟨_,hp',rfl⟩
    .exact hB'.isl b y
   .rename_i z
    obtain⟨h1,h2,xs,h3,himm⟩:=e1.new j b hb
    have hni:b∉p::B:=λy=>e.dis j i b z hb (by rw[eA];exact y)
    exact⟨nofz b _ h1 h3 himm hni,h2,xs,keep b _ hni h3,himm⟩
 .exact w.elim
theorem CalIO.of {P:Program}{w:World}{base:Heap}{x:Str}{st:Stmt}{f:Addr}{fd:FuncData}{N ps:List Str}{k n:Nat}{sp:DIO}(Df:DefAt K mg x st f fd)(S:FnScope N ps (Xae st))
  (hb:∀(kV doc pm:Value) (an:Option Addr) (cdv ct:Value) (us:List Value),us.length=ps.length->bindArgs (fnOf x x (Xb5 st) (Xbi st) (Xae st) .none kV doc pm an cdv ct) ⟨us,[]⟩=pure (ps.zip us)) (hn:n=ps.length)
  (hbody:∀(cdv:Value) (A:Around) (outer:List Env) (s:Shared) (H:Hp) (E:XK),Room k (A.deeper (envOfC x (Xae st) s.heap.objs.size f cdv))->
   ∃t T,PSs (Xjs CX0 P w K mg base N x (Xae st) f cdv A outer s H E).nox (Xbi st) t/\Xc3 K t T/\∀(a:Addr) ts ds Pr,sp ts ds Pr->T {nx:=λδ=>∃ts',δ[0]?=some (some (.own (.rt a ts')))/\Pr ts',rt:=λ_=>False} (Xjd N a ts ds)):Cal P w K mg base x (k+1) ps (Ygc K n sp):=
 Cal.of Df S hb (λvs H Q E h=>by rw[<- hn];exact h.1) λcdv A outer s H vs Q E hr h=>by
  obtain⟨_,F,a,ts,vs0,B,Xis,ds,Pr,rfl,hs,ha,hB,hnd,hnf,hr',hsp,hq⟩:=h
  obtain⟨t,T,h1,h2,h3⟩:=hbody cdv A outer s H E hr
  have hl:=hr'.length
  have er : ER K F (λb=>if b∈a::B then none else H b) F H (Xd3 N (V.ref a::Xis)) (Xjd N a ts ds) (λj=>if j=0 then a::B else []):=by
   refine⟨by simp[Xd3,Xjd,hl],⟨Xbj.refl _,λb o z=>?_,hs,λ_ _ z _ _=>z⟩,λi t hi=>?_,λi d hi=>?_,λj=>?_,λj k b hjk y1 y2=>?_,λj b hb=>?_⟩
   .split at z
    .cases z
    .exact z
   .unfold Xjd at hi
    cases i with
    |zero=>
     simp at hi
     subst hi
     exact⟨.ref a,rfl,vs0,B,rfl,rfl,ha,hB⟩
    |succ i=>
     rw[getElem?_cons_succ]at hi
     by_cases z:i<ds.length
     .rw [getElem?_append_left (by simpa using z),getElem?_map,getElem?_eq_getElem z]at hi
      simp at hi
      subst hi
      obtain⟨v,g1,g2⟩:=hr'.get (getElem?_eq_getElem z)
      refine⟨v,?_,rfl,g2⟩
      unfold Xd3
      rw[map_cons,cons_append,getElem?_cons_succ,getElem?_append_left (by simp;lia),getElem?_map,g1]
      rfl
     .rw [getElem?_append_right (by simpa using z)]at hi
      have:=mem_of_getElem? hi
      rw[mem_replicate]at this
      cases this.2
   .unfold Xjd at hi
    cases i with
    |zero=>simp at hi
    |succ i=>
     rw[getElem?_cons_succ]at hi
     by_cases z:i<ds.length
     .rw [getElem?_append_left (by simpa using z),getElem?_map]at hi
      simp at hi
     .rw [getElem?_append_right (by simpa using z)]at hi
      have:=mem_of_getElem? hi
      rw[mem_replicate]at this
      cases this.2
   .split
    .exact hnd
    .exact nodup_nil
   .split at y1
    .split at y2
     .lia
     .cases y2
    .cases y1
   .split at hb
    .refine ⟨hnf b hb,if_pos hb,?_⟩
     rcases mem_cons.mp hb with y |y
     .rw [y];exact⟨_,ha,rfl⟩
     .exact hB.isl b y
    .cases hb
  refine⟨t,h1,h2 F _ F H (Xd3 N (V.ref a::Xis)) (Xjd N a ts ds) {nx:=λδ=>∃ts',δ[0]?=some (some (.own (.rt a ts')))/\Pr ts',rt:=λ_=>False} _ ⟨_,er⟩ ⟨λF' H' Y δ e p=>?_,λ_ _ _ _ _ z=>z.elim,λ_ _ _ _ _ z=>z.elim,λ_ _ _ _ _ _ z=>z.elim⟩ (h3 a ts ds Pr hsp)⟩
  obtain⟨A',e⟩:=e
  obtain⟨ts',h0,hp⟩:=p
  obtain⟨v,hv,vs',B',rfl,eA,g1,g2⟩:=e.own 0 _ h0
  have hn':=e.nod 0
  rw[eA]at hn'
  refine hq ts' F' H' vs' B' hp e.ext.ff e.ext.fh (λb o y z=>?_) (λb o y1 y2 y3 y4=>?_) g1 g2 hn' (λb hb=>?_)
  .exact e.ext.hh b o (by rw[if_neg y];exact z)
  .exact e.ext.no b o y1 (by rw[if_neg y4];exact y2) y3
  .obtain ⟨z1,z2,_⟩:=e.new 0 b (by rw[eA];exact hb)
   refine⟨z1,?_⟩
   by_cases q:b∈a::B
   .exact .inl q
   .rw [if_neg q]at z2;exact .inr z2
def Ypo (t:TS):Prop:=∀E Y H,t {E with nx:=λY' H'=>Y'=Y->E.nx Y' H'} Y H->t E Y H
theorem Ylm {E:Ends}{Y:St}:(λH'=>Y=Y->E.nx Y H')=E.nx Y:=funext λH'=>propext ⟨λz=>z rfl,λz _=>z⟩
theorem Yab {te to ti:TE}{r:Yjw}:Ypo (Xyg te (Ynb to ti r)):=λE Y H h=>by
 have h':te Y H λx H1=>to Y H1 λo H2=>ti Y H2 λi H3=>r o i x H3 (λH'=>Y=Y->E.nx Y H'):=h
 rw[Ylm]at h'
 exact h'
theorem Xek.untag (e:Xek K F0 H0 F H Y δ)(h:δ[i]?=some (some (.own (.rt a ts)))): Y[i]?=some (some (.ref a))/\Xek K F0 H0 F H Y (δ.set i (some (.own (.nl ts)))):=by
 obtain⟨A,e⟩:=e
 obtain⟨v,hv,vs,B,rfl,eA,h1,h2⟩:=e.own i _ h
 have hlt:i<δ.length:=(List.getElem?_eq_some_iff.mp h).1
 refine⟨hv,A,by simp[e.len],e.ext,λj t hj=>?_,λj d hj=>?_,e.nod,e.dis,e.new⟩
 .by_cases z:j=i
  .subst z
   rw[getElem?_set_self hlt]at hj
   cases hj
   exact⟨_,hv,a,vs,B,rfl,eA,h1,h2⟩
  .rw [getElem?_set_ne (Ne.symm z)]at hj
   exact e.own j t hj
 .by_cases z:j=i
  .subst z
   rw[getElem?_set_self hlt]at hj
   cases hj
  .rw [getElem?_set_ne (Ne.symm z)]at hj
   exact e.bw j d hj
theorem Xek.retag (e:Xek K F0 H0 F H Y δ)(h:δ[i]?=some (some (.own (.nl ts))))(hσ:Y[i]?=some (some (.ref a))): Xek K F0 H0 F H Y (δ.set i (some (.own (.rt a ts)))):=by
 obtain⟨A,e⟩:=e
 obtain⟨v,hv,a',vs,B,rfl,eA,h1,h2⟩:=e.own i _ h
 rw[hσ]at hv
 cases hv
 have hlt:i<δ.length:=(List.getElem?_eq_some_iff.mp h).1
 refine⟨A,by simp[e.len],e.ext,λj t hj=>?_,λj d hj=>?_,e.nod,e.dis,e.new⟩
 .by_cases z:j=i
  .subst z
   rw[getElem?_set_self hlt]at hj
   cases hj
   exact⟨_,hσ,vs,B,rfl,eA,h1,h2⟩
  .rw [getElem?_set_ne (Ne.symm z)]at hj
   exact e.own j t hj
 .by_cases z:j=i
  .subst z
   rw[getElem?_set_self hlt]at hj
   cases hj
  .rw [getElem?_set_ne (Ne.symm z)]at hj
   exact e.bw j d hj
theorem Yei (hl:Ypo t)(h:Xc3 K t T): Xc3 K t (Yni i T):=λF0 H0 F H Y δ De E e l w=>by
 unfold Yni at w
 split at w
 .rename_i a ts hs
  obtain⟨hσ,e'⟩:=e.untag hs
  have lk:Lk K F0 H0 {De with nx:=λδ'=>match δ'[i]? with |some (some (.own (.nl ts')))=>De.nx (δ'.set i (some (.own (.rt a ts')))) |_=>False} {E with nx:=λY' H'=>Y'=Y->E.nx Y' H'}:=by
   refine⟨λF1 H1 Y1 δ1 e1 p hq=>?_,l.bk,l.ct,l.rt⟩
   subst hq
   dsimp only at p
   split at p
   .rename_i ts' hs'
    exact l.nx F1 H1 _ _ (e1.retag hs' hσ) p
   .exact p.elim
  exact hl E Y H (h F0 H0 F H Y _ _ _ e' lk w)
 .exact w.elim
end
section
variable {K:Frag}{X:Cx}
theorem ER.putBw {A:Nat->List Addr}(e:ER K F0 H0 F H Y δ A)(i:Nat)(h:Rep K H0 d v): ER K F0 H0 F H (Y.set i (some v)) (δ.set i (some (.bw d))) A:=by
 refine⟨by simp[e.len],e.ext,λj t hj=>?_,λj d' hj=>?_,e.nod,e.dis,e.new⟩
 .by_cases z:j=i
  .subst z
   have hl0:j<δ.length:=by
    have:=(List.getElem?_eq_some_iff.mp hj).1
    rwa[length_set]at this
   rw[getElem?_set_self hl0]at hj
   cases hj
  .rw [getElem?_set_ne (Ne.symm z)]at hj ⊢
   exact e.own j t hj
 .by_cases z:j=i
  .subst z
   have hl0:j<δ.length:=by
    have:=(List.getElem?_eq_some_iff.mp hj).1
    rwa[length_set]at this
   rw[getElem?_set_self hl0]at hj
   cases hj
   exact⟨v,getElem?_set_self (by rw[e.len];exact hl0),h⟩
  .rw [getElem?_set_ne (Ne.symm z)]at hj ⊢
   exact e.bw j d' hj
theorem Ycl (hl:Xe6 K tl El)(he:Xjx K te Eo): Xjx K (Xoj (Yir K tl) ix (Xo2 0) te) (Yfn El ix Eo):=λF0 H0 F H Y δ P Q e w q=>
 hl F0 H0 F H Y δ _ _ e w λd v F1 H1 p x1 r1=>by
  split at p
  case h_2=>exact p.elim
  rename_i ds
  obtain⟨aL,vsL,rfl,hq1,hq2⟩:=r1
  have hql:=hq2.length
  refine⟨aL,rfl,⟨vsL,hq1⟩,?_⟩
  intro L hL
  obtain⟨A,e⟩:=e.on x1
  obtain⟨W,w0,ws,wd⟩:=p
  have f1:Xbj F1 H1:=x1.fh
  refine⟨λi m Y ys H=>m=ds.length-i/\i<=ds.length/\∃F δ ts B,ER K F1 H1 F H Y δ (λ_=>[])/\W i δ ts/\F L=none/\H L=some (.lst ys)/\Xa3 K F H ts ys B/\(L::B).Nodup/\∀b∈B,H1 b=none/\F b=none,
   ⟨ds.length,rfl,zero_le _,F1,_,[],[],e.blk ix (Xbj.new hL),w0,f1.free hL,Xay,⟨rfl,rfl⟩,by simp,λ_ h=>by cases h⟩,?_⟩
  rintro i m Y2 ys H2 ⟨rfl,hil,F2,δ2,ts,B,e2,w2,l1,l2,hr,nd,nw⟩
  have hqn:=e2.ext.hh.seq hq1
  by_cases hlt:i<ds.length
  .obtain ⟨d0,hd0⟩:∃d,ds[i]?=some d:=⟨_,getElem?_eq_getElem hlt⟩
   have hl:=hr.length
   refine .inr ⟨Xwm (by have:=(ws i d0 δ2 ts hd0 w2).1;lia),⟨vsL,vsL[i]'(by lia),hqn,getElem?_eq_getElem (by lia)⟩,λx H3 y=>?_⟩
   obtain⟨rfl,y⟩:=y
   obtain⟨d,hd,r3⟩:=hq2.get' (y vsL hqn)
   have x3:=Ext.refl e2.ext.fh
   have w4:=(ws i d δ2 ts hd w2).2
   have e4':=e2.putBw 0 r3
   refine he F1 H1 F2 _ _ _ _ _ ⟨_,e4'⟩ w4 λr v F5 H5 p5 x5 n5=>?_
   have x25:=x3.trans x5
   have l5:=x25.hh _ _ l2
   have l5f:=x25.no L _ l1 l2 rfl
   refine⟨l5,ds.length-(i+1),by lia,rfl,hlt,F5,δ2.set 0 (some (.bw d)),ts++[r],?_⟩
   obtain⟨C,c1,c2,c3⟩:=n5
   obtain⟨n1,n2⟩:=nodup_cons.mp nd
   have hLC:L∉C:=λz=>by
    have q:=(c3 L z).1
    rw[x3.hh _ _ l2]at q;cases q
   have hBC:∀b,b∈B->b∉C:=λb hb z=>by
    obtain⟨xs,q,himm⟩:=hr.isl b hb
    have:=(c3 b z).1
    rw[x3.hh _ _ q]at this;cases this
   have e5:=e4'.on x5
   refine⟨B++C,⟨e5.len,⟨e5.ext.ff,λb o h=>?_,λb o h=>?_,e5.ext.no⟩,λj t hj=>?_,e5.bw,e5.nod,e5.dis,λ_ _ h=>by cases h⟩,p5,l5f,Xay,?_,?_,λb hb=>?_⟩
   .exact Xav (λz=>by rw[z,hL]at h;cases h) (e5.ext.hh _ _ h)
   .exact Xav (λz=>by rw[z,l5f]at h;cases h) (e5.ext.fh _ _ h)
   .obtain ⟨u,h1,h2⟩:=e5.own j t hj
    exact⟨u,h1,h2.frame (Xbj.refl _) λ_ z=>by cases z⟩
   .exact Xa3.append (hr.frame x25.ff λb hb xs z=>Xav (λq=>n1 (by rw[<- q];exact hb)) (x25.hh _ _ z)) (Xa3.one (c1.frame (Xbj.refl _) λb hb xs z=>Xav (λq=>hLC (by rw[<- q];exact hb)) z))
   .refine nodup_cons.mpr ⟨λz=>?_,nodup_append.mpr ⟨n2,c2,λx hx y hy z=>by subst z;exact hBC x hx hy⟩⟩
    rcases mem_append.mp z with z |z
    .exact n1 z
    .exact hLC z
   .rcases mem_append.mp hb with z |z
    .obtain ⟨xs,qq,himm⟩:=hr.isl b z
     exact⟨(nw b z).1,x25.no b _ (nw b z).2 qq himm⟩
    .exact ⟨(e2.ext.hh.trans x3.hh).free (c3 b z).1,(c3 b z).2⟩
  .have hi':i=ds.length:=by lia
   subst hi'
   refine .inl ⟨⟨vsL,hqn,by lia⟩,q _ _ F2 H2 (wd _ _ w2) (x1.trans e2.ext) ⟨L::B,⟨L,ys,B,rfl,rfl,l2,hr⟩,nd,λb hb=>?_⟩⟩
   rcases mem_cons.mp hb with rfl |z
   .exact ⟨x1.hh.free hL,l1⟩
   .exact ⟨x1.hh.free (nw b z).1,(nw b z).2⟩
def Yk2 (K:Frag):List V->Hp->VK->Prop:=λxs H Q=>∃(l:Addr) (bs:List Bool),xs=[.ref l]/\SqL K H l (bs.map V.bl)/\Q (.bl (bs.all id)) H
theorem Xtf:∀{bs:List Bool} {us:List Value},Xbz (bs.map V.bl) us->∀{i:Nat} {v:Value},us[i]?=some v->∃b,bs[i]?=some b/\v = .bool b
 | [],_,.nil,i,v,e=>by simp at e
 |b::bs,u::us,.cons r t,0,v,e=>by
  simp at e
  subst e
  exact⟨b,rfl,r⟩
 |b::bs,u::us,.cons r t,i+1,v,e=>by
  obtain⟨b',h1,h2⟩:=Xtf t e
  exact⟨b',h1,h2⟩
theorem Xh9 (hc:X.calm=true): Xhb X (.builtin "all") (Yk2 X.K):=by
 intro pins s Y H xs us Q I r h
 obtain⟨l,bs,rfl,hq,q⟩:=h
 obtain⟨u,rfl,ru⟩:=Xhg r
 cases ru
 obtain⟨its,rv,pl,hz⟩:=I.list hq
 have hl:=pl.isList
 have hn:=rv.length
 rw[length_map]at hn
 have hlt:l<s.heap.objs.size:=by obtain⟨_,e,_⟩:=hl;exact lt_size e
 refine call_all_walk (wpAny_pyIter_list hl ?_)
 refine⟨s.heap.objs.size,[s.heap.objs.size,l],[s.heap.objs.size],its.toArray.size,_,_,λi=>(bs[i]?).getD true,rfl,Walks.list (A:=X.A.in1) (I.ok.hd hc) _ l (ne_of_lt hlt) its.toArray,
  ⟨⟨_,get?_push_size _ rfl,rfl,rfl⟩,hl.push _⟩,λi v s' Q' E' hP hQ=>?_,λh' tk hk=>?_⟩
 .obtain ⟨b,e,rfl⟩:=Xtf rv (by simpa using hP)
  simp only[e]at hQ
  exact wpAny_truthy_bool hQ
 .have e:((List.range its.toArray.size).all λi=>(bs[i]?).getD true)=bs.all id:=by
   rw[size_toArray,<- hn];exact LSm.range_all bs
  rw[e]
  exact⟨.bl _,H,I.kept (t':=tk) (LSm.kept_iter hk),rfl,q⟩
theorem Xpj:∀{bs:List Bool} {vs:List V},Xb1 K F (bs.map D.bl) vs->vs=bs.map V.bl
 | [],vs,h=>h
 |b::bs,vs,h=>by
  obtain⟨v,r,rfl,h1,h2⟩:=h
  rw[show v=V.bl b from h1,Xpj h2];rfl
theorem Xte:CbS K (Yk2 K) Yod:=λF H ds vs P Q s rs w q=>by
 unfold Yod at w
 split at w
 .obtain ⟨bs,rfl,w⟩:=w
  obtain⟨v,rfl,p,us,rfl,h1,h2⟩:=Xhe rs
  have e:=Xpj h2
  subst e
  exact⟨p,bs,rfl,h1,q _ _ F H w (Ext.refl s) rfl⟩
 .exact w.elim
theorem Ylw (h:ixN n k=some j): j<n:=by
 unfold ixN at h
 split at h
 .split at h
  .cases h;lia
  .cases h
 .split at h
  .cases h;lia
  .cases h
theorem Ygm (h:Xdi K te E)(hk:Xe6 K tk Ek)(hm:Xe6 K tm Em): Xc3 K (Xyg te (Ynb (tOp (Ym6 K) (Xod i) tk) tm Ycs)) (Ykm i Ek Em E):=λF0 H0 F H Y δ De En e l w=>by
 refine h F0 H0 F H Y δ _ _ e w λd u F1 H1 p x1 rd=>?_
 obtain⟨A,e⟩:=e
 split at p
 .rename_i ts hs
  have e1:=e.on x1
  obtain⟨v,hv,a,vs,B,rfl,eA,ha,hB⟩:=e1.own i _ hs
  refine⟨_,hv,?_⟩
  refine hk F0 H0 F1 H1 Y δ _ _ ⟨A,e1⟩ p λk kv F2 H2 p2 x2 r2=>?_
  split at p2
  .rename_i k
   obtain⟨j,us,hj,hu,p2⟩:=p2
   have e2:=e1.on x2
   have ha2:=x2.hh _ _ ha
   have hB2:Xa3 K F2 H2 ts vs B:=hB.frame x2.ff λb _ xs z=>x2.hh _ _ z
   have hlv:=hB2.length
   obtain⟨v0,A1,B0,A2,f1,rfl,f3,f4⟩:=hB2.focus hu
   obtain⟨c,ws,C0,rfl,rfl,hc,hws⟩:=f3
   have at1:atI vs k=some (.ref c):=by
    unfold atI
    rw[<- hlv,hj];exact f1
   refine⟨a,vs,k,.ref c,rfl,r2,SqL.of ha2,at1,?_⟩
   refine hm F0 H0 F2 H2 Y δ _ _ ⟨A,e2⟩ p2 λm mv F3 H3 p3 x3 r3=>?_
   split at p3
   .rename_i m
    obtain⟨q,hq,p3⟩:=p3
    have e3:=e2.on x3
    have hlw:=hws.length
    refine⟨c,ws,m,q,rfl,r3,x3.hh _ _ hc,by rw[<- hlw];exact hq,?_⟩
    have hql:=Ylw hq
    have hws3:Xa3 K F3 H3 us ws C0:=hws.frame x3.ff λb _ xs z=>x3.hh _ _ z
    obtain⟨w0,C1,D0,C2,g1,rfl,g3,g4⟩:=hws3.focus (getElem?_eq_getElem hql)
    have hnd:=e.nod i
    rw[eA]at hnd
    have hA:A i=a::(A1++(c::(C1++(D0++C2))++A2)):=eA
    obtain⟨n1,n2⟩:=nodup_cons.mp hnd
    obtain⟨m1,m2,m3⟩:=nodup_append.mp n2
    obtain⟨q1,q2,q3⟩:=nodup_append.mp m2
    obtain⟨s1,s2⟩:=nodup_cons.mp q1
    have hac:a≠c:=λz=>n1 (by rw[z];simp)
    have off:∀b∈A1++A2,b≠c:=λb hb z=>by
     subst z
     rcases mem_append.mp hb with y |y
     .exact m3 b y b (by simp) rfl
     .exact q3 b (by simp) b y rfl
    have offC:∀b∈C1++C2,b≠c:=λb hb z=>by
     subst z
     apply s1
     rcases mem_append.mp hb with y |y<;>simp[y]
    have rd3:Rep K F3 d u:=rd.mono (x2.ff.trans x3.ff)
    have g4':=g4 F3 (upd H3 c (.lst (ws.set q u))) (.fz d) u [] (Xbj.refl _) (λb hb xs z=>Xav (offC b hb) z) ⟨rfl,rd3⟩
    have f4':=f4 F3 (upd H3 c (.lst (ws.set q u))) (.nl (us.set q (.fz d))) (.ref c) (c::(C1++([]++C2))) x3.ff (λb hb xs z=>Xav (off b hb) (x3.hh _ _ z)) ⟨c,ws.set q u,_,rfl,rfl,Xay,g4'⟩
    rw[Xf6 f1]at f4'
    have sub:(a::(A1++(c::(C1++([]++C2))++A2))).Sublist (A i):=by
     rw[hA]
     exact List.Sublist.cons₂ _ (List.Sublist.append (List.Sublist.refl _) (List.Sublist.append (List.Sublist.cons₂ _ (List.Sublist.append (List.Sublist.refl _) (List.Sublist.append (List.nil_sublist _) (List.Sublist.refl _)))) (List.Sublist.refl _)))
    refine l.nx F3 _ Y _ (e3.change i hv (t':=.nl (ts.set j (.nl (us.set q (.fz d))))) (B:=a::(A1++(c::(C1++([]++C2))++A2))) ⟨a,vs,_,rfl,rfl,Xav hac (x3.hh _ _ ha2),f4'⟩ ?_ ?_ ?_ ?_) p3
    .exact (e.nod i).sublist sub
    .intro b hb
     exact⟨(e3.new i b (sub.subset hb)).1,(e3.new i b (sub.subset hb)).2.1⟩
    .intro j' hj' b hb z
     exact e.dis j' i b hj' z (sub.subset hb)
    .intro b o hb q'
     exact Xav (λz=>hb (by rw[hA,z];simp)) q'
   .exact p3.elim
  .exact p2.elim
 .exact p.elim
def Yku (K:Frag):V->Int->Hp->VK->Prop:=λx c H Q=>∃a xs,x = .ref a/\SqL K H a xs/\0<c/\∀p H',H p=none->Xbj H H'->H' p=some (.lst (Xpz xs c))->Q (.ref p) H'
def Yj2 (r:V->Int->Hp->VK->Prop)(te tc:TE):TE:=λY H Q=>te Y H λx H1=>tc Y H1 λc H2=>∃i,c = .int i/\r x i H2 Q
theorem Xmw (h:Xbz xs us): ∀(js:List Nat),Xbz (js.filterMap (xs[·]?)) (js.filterMap (us.toArray[·]?))
 | []=>.nil
 |j :: js=>by
  have ih:=Xmw h js
  by_cases hj:j<xs.length
  .obtain ⟨u,hu,ru⟩:=h.get (i:=j) (x:=xs[j]) (by simp)
   have e1:xs[j]?=some xs[j]:=by simp
   have e2:us.toArray[j]?=some u:=by simpa using hu
   rw[filterMap_cons_some e1,filterMap_cons_some e2]
   exact .cons ru ih
  .have hj':¬ j<us.length:=by rw[<- h.length];exact hj
   have e1:xs[j]?=none:=by simp;lia
   have e2:us.toArray[j]?=none:=by simp;lia
   rw[List.filterMap_cons_none e1,List.filterMap_cons_none e2]
   exact ih
theorem Xzk (he:PE X e te)(hc:PE X c tc): PE X (.Subscript e (.Slice none none (some c) p2) pos) (Yj2 (Yku X.K) te tc):=by
 intro pins s Y H Q I h
 refine Subscript_ (thn (he pins s Y H _ I h) λv s1 ⟨x,H1,I1,r1,q1⟩=>?_)
 refine wpAny_Slice ?_
 refine wpAny_pure ?_
 refine wpAny_pure ?_
 refine thn (hc pins s1 Y H1 _ I1 q1) λvc s3 ⟨y,H3,I3,rc,i,ey,q3⟩=>?_
 subst ey
 obtain⟨a,xs,rfl,hq,hi,q⟩:=q3
 obtain⟨tk,rfl⟩:=rc
 cases r1
 have I4:Inv X pins Y H3 {s3 with heap:=s3.heap.push {cls:=.type "slice",data:=.fields #[.none,.none,.int i tk]}}:=I3.kept (t':=s3.toks) λb ob q=>get?_push_of_some _ q
 obtain⟨its,rv,pl,hz⟩:=I4.list hq
 have hn:=rv.length
 have hbd:sliceBounds none none (some i) its.toArray.size=(0,(xs.length:Int),i):=by
  unfold sliceBounds
  simp[hi,hn]
 have hpk:slicePick its.toArray none none (some i)=((sliceRange 0 xs.length i).filterMap (its.toArray[·]?)).toArray:=by
  unfold slicePick
  rw[hbd]
 refine tail_any (T := "list") (ops:=[.ref a,.ref s3.heap.objs.size]) pl.isList.typeIs slot_list_getitem.lookup ?_ (by with_unfolding_all rfl)
 refine wpAny_getItem_list_slice pl.isList (Heap.IsSliceOf.new ..) .none .none (.int i tk) (by intro z;injection z with z;lia) ?_ (by rw[size_toArray]<;>lia)
 rw[hpk]
 have hle:(Xpz xs i).length<=xs.length:=by
  have h1:=slicePick_size_le its.toArray none none (some i)
  rw[hpk,size_toArray,size_toArray]at h1
  have h2:=(Xmw rv (sliceRange 0 xs.length i)).length
  show ((sliceRange 0 xs.length i).filterMap (xs[·]?)).length<=_
  lia
 have hf:=I4.hok.fresh (Nat.le_refl _)
 refine⟨.ref _,_,I4.laid (t':=s3.toks) (o:=.lst (Xpz xs i)) (λb ob q=>get?_push_of_some _ q) (Nat.le_refl _) ?_,rfl,q _ _ hf (Xbj.new hf) Xay⟩
 exact⟨le_trans hle hz,_,0,Xmw rv (sliceRange 0 xs.length i),get?_push_size _ rfl⟩
theorem Xb1.pick (h:Xb1 K F ds vs): ∀(js:List Nat),Xb1 K F (js.filterMap (ds[·]?)) (js.filterMap (vs[·]?))
 | []=>rfl
 |j :: js=>by
  have ih:=Xb1.pick h js
  have hl:=h.length
  by_cases hj:j<ds.length
  .obtain ⟨v,hv,rv⟩:=h.get (i:=j) (d:=ds[j]) (by simp)
   have e1:ds[j]?=some ds[j]:=by simp
   rw[filterMap_cons_some e1,filterMap_cons_some hv]
   exact⟨v,_,rfl,rv,ih⟩
  .have e1:ds[j]?=none:=by simp;lia
   have e2:vs[j]?=none:=by simp;lia
   rw[List.filterMap_cons_none e1,List.filterMap_cons_none e2]
   exact ih
theorem Xb1.step (h:Xb1 K F ds vs)(c:Int): Xb1 K F (Xpz ds c) (Xpz vs c):=by
 unfold Xpz
 rw[h.length]
 exact h.pick _
theorem Xy0 (ha:Xdi K ta Ea)(hc:Xe6 K tc Ec): Xjx K (Yj2 (Yku K) ta tc) (Ymf Ea Ec):=λF0 H0 F H Y δ P Q e w q=>
 ha F0 H0 F H Y δ _ _ e w λx v F1 H1 w1 x1 r1=>hc F0 H0 F1 H1 Y δ _ _ (e.on x1) w1 λc u F2 H2 w2 x2 r2=>by
  have x12:=x1.trans x2
  split at w2
  .obtain ⟨c0,w2⟩:=w2
   obtain⟨p,vs,rfl,h1,h2⟩:=r1.mono x2.ff
   exact⟨_,r2,p,vs,rfl,x2.fh.seq h1,c0,λl H' l0 sm l1=>q _ _ F2 H' w2 (x12.trans (Ext.grow x2.fh sm)) (Xlg.list (x12.hh.free l0) (x2.fh.free l0) l1 (h2.step _))⟩
  .exact w2.elim
structure DefAtD (K:Frag) (mg:Str->Option Value) (x:Str) (st:Stmt) (f:Addr) (fd:FuncData) (T:Addr) (items:Array Value):Prop where
 ex:∃(oc:Value) (od:Option Addr) (kV doc pm:Value) (an:Option Addr) (cdv ct:Value) (osl:Array (Option Value)),
  fd=fnOf x x (Xb5 st) (Xbi st) (Xae st) (.ref T) kV doc pm an cdv ct/\K.lookup f=some ⟨oc,od,.func fd,osl⟩/\codeIn K cdv x=true
 tup:∃o n,K.lookup T=some o/\o.data = .seq items n
 kp:keepIn K (.ref f)=true
 here:mg x=some (.ref f)
structure CalD (P:Program) (w:World) (K:Frag) (mg:Str->Option Value) (base:Heap) (x:Str) (k:Nat) (ps:List Str) (sp:Sp) (dvs:List V):Prop where
 ex:∃f fd ds,FnOk P w K mg base CX0 k f fd ps sp/\mg x=some (.ref f)/\keepIn K (.ref f)=true/\Xj0 K fd ps []/\Xj0 K fd ps ds/\Xbz dvs ds
theorem CalD.cal {mg:Str->Option Value}(C:CalD P w K mg base x k ps sp dvs): Cal P w K mg base x k ps sp:=by
 obtain⟨f,fd,ds,a,b,c,d,_⟩:=C.ex
 exact⟨f,fd,a,b,c,d⟩
theorem CalVD.of {P:Program}{w:World}{mg:Str->Option Value}{base:Heap}{x:Str}{st:Stmt}{f T:Addr}{items:Array Value}{fd:FuncData}{N ps:List Str}{k n:Nat}{sp:DSp}{ds:List Value}{dvs:List V}(Df:DefAtD K mg x st f fd T items)(S:FnScope N ps (Xae st))
  (hb:∀(kV doc pm:Value) (an:Option Addr) (cdv ct:Value) (us:List Value),us.length=ps.length->∃k,bindArgs (fnOf x x (Xb5 st) (Xbi st) (Xae st) (.ref T) kV doc pm an cdv ct) ⟨us,[]⟩=seqItems? (.ref T) >>= k/\k (some items)=pure (ps.zip us))
  (hb2:∀(kV doc pm:Value) (an:Option Addr) (cdv ct:Value) (us:List Value),(us++ds).length=ps.length->∃k,bindArgs (fnOf x x (Xb5 st) (Xbi st) (Xae st) (.ref T) kV doc pm an cdv ct) ⟨us,[]⟩=seqItems? (.ref T) >>= k/\k (some items)=pure (ps.zip (us++ds)))
  (hv:Xbz dvs ds) (hn:n=ps.length)
  (hbody:∀(cdv:Value) (A:Around) (outer:List Env) (s:Shared) (H:Hp) (E:XK),Room k (A.deeper (envOfC x (Xae st) s.heap.objs.size f cdv))->
   ∃t T,PSs (Xjs CX0 P w K mg base N x (Xae st) f cdv A outer s H E).nox (Xbi st) t/\Xc3 K t T/\∀ds Pr,sp ds Pr->T {nx:=λ_=>Pr (.fz .non),rt:=Pr} (Xeo N ds)):CalD P w K mg base x (k+1) ps (spV K n sp) dvs:=by
 obtain⟨oc,od,kV,doc,pm,an,cdv,ct,osl,rfl,lk,hcd⟩:=Df.ex
 obtain⟨o,m,ht,hs⟩:=Df.tup
 refine⟨f,_,ds,Yi1 lk hcd S (λvs H Q E h=>by rw[<- hn];exact h.1) (λA outer s H vs Q E hr h=>?_),Df.here,Df.kp,λs us KX hl=>?_,λs us KX hl=>?_,hv⟩
 .obtain ⟨_,F,ds',Pr,hs',hr',hsp,hq⟩:=h
  obtain⟨t,T',h1,h2,h3⟩:=hbody cdv A outer s H E hr
  refine⟨t,h1.nox,h2 F H F H (Xd3 N vs) (Xeo N ds') {nx:=λ_=>Pr (.fz .non),rt:=Pr} _ ⟨_,Xhi hs' hr'⟩ ⟨λF' H' Y δ e p=>?_,λ_ _ _ _ _ z=>z.elim,λ_ _ _ _ _ z=>z.elim,λF' H' r v x n p=>hq r v F' H' p x n⟩ (h3 ds' Pr hsp)⟩
  exact hq _ _ F' H' p e.ext (.fz rfl)
 .rw [append_nil]at hl ⊢
  obtain⟨k',e1,e2⟩:=hb kV doc pm an cdv ct us hl
  exact binds_K KX rfl ht hs e1 e2
 .obtain ⟨k',e1,e2⟩:=hb2 kV doc pm an cdv ct us hl
  exact binds_K KX rfl ht hs e1 e2
end
section
variable {X:Cx}{K:Frag}{tg:Expr}
end
theorem Xmu.mapB {α:Type}{Eo:DO}{o:Option Sl}{Xis:Dst}{P:OV->Prop}(xs:List α)(g:α->D)(f:α->OV)(hn:xs.length<=1000000)
  (h:∀x∈xs,∀Q:OV->Prop,Q (f x)->Eo (some (.bw (g x))::Xis) Q) (k:P (.nl (xs.map f))):Xmu (gB 0) Eo (xs.map g) (o::Xis) P:=by
 refine⟨λi δ ts=>∃o,δ=o::Xis/\ts=(xs.take i).map f,⟨o,rfl,rfl⟩,?_,?_⟩
 .rintro i d δ ts hd ⟨o,rfl,rfl⟩
  obtain⟨x,hx,rfl⟩:=Ydg hd
  obtain⟨hi,e⟩:=List.getElem?_eq_some_iff.mp hx
  refine⟨by rw[length_map,length_take];lia,h x (mem_of_getElem? hx) _ ⟨_,rfl,?_⟩⟩
  rw[List.take_succ_eq_append_getElem hi,e,map_append]
  rfl
 .rintro δ ts ⟨o,rfl,rfl⟩
  rw[length_map,take_length]
  exact k
def ibN (i:Int):Nat:=if i=0 then 0 else i.natAbs.log2+1
theorem Yiq:ibN (i.natAbs:Int)=ibN i:=by
 unfold ibN
 by_cases h:i=0
 .subst h;rfl
 .rw [if_neg h,if_neg (by lia)];rfl
theorem Yl0 (h1 : -(2^n)<i)(h2:i<2^n): ibN i<=n:=by
 unfold ibN
 split
 .exact zero_le _
 .have hp:((2^n:Nat):Int)=(2:Int)^n:=rfl
  have hn:i.natAbs<2^n:=by omega
  have:i.natAbs.log2<n:=(Nat.log2_lt (by lia)).mpr hn
  lia
section
variable {K:Frag}{X:Cx}
theorem Yl1:Builtin.Int.intBits i=ibN i:=by
 unfold Builtin.Int.intBits ibN
 by_cases h:i=0
 .subst h;rfl
 .simp
def Xu8 (K:Frag):Sp:=spL 1 λvs H Q=>∃(a:Addr) (ns:List Int),vs=[.ref a]/\SqL K H a (ns.map V.int)/\ns.length<=63/\(∀m∈ns,ibN m<=1048576)/\∀H',Q (.bl true) H'
theorem Xmv:∀(ns:List Int),(∀m∈ns,ibN m<=PySem.W.WData.weightAll (ns.map PySem.W.WData.int))
 | [],m,h=>by cases h
 |n :: ns,m,h=>by
  rw[map_cons]
  simp only[PySem.W.WData.weightAll]
  rcases mem_cons.mp h with rfl |h
  .have:ibN m=PySem.W.WData.weight (PySem.W.WData.int m):=by
    unfold ibN
    simp only[PySem.W.WData.weight]
    by_cases z:m=0
    .subst z;rfl
    .simp
   lia
  .have:=Xmv ns m h
   lia
end
end L2
namespace Att
open PySem PySem.W PySem.Calls PyProof.Rows
theorem attach_callB {l:OpenLaw}{n:Nat}{q:Program}{loose:List Str}{XP:(Str->Option Value)->Heap->Prop}{YP:World->Heap->Prop}{d:DefRec}
  (hn:l.most=some n) (hdf:d.params.defaults=[])
  (call:∀(w:World) (s₀ s₁:Shared) (mg mb:Str->Option Value) (fa:Addr) (o:Obj) (pm cd doc:Value) (a:Addr) (vs:List Value) (ns:List Int),
   Ground q loose [] XP w s₀ mg mb s₁.heap->YP w s₁.heap->
   s₁.heap.get? fa=some o->o.data = .func (docDef d.name d.params d.body d.scope pm cd doc)->s₁.heap.CodeRec cd d.name->mg d.name=some (.ref fa)->
   s₁.heap.get? a=some {cls:=.type "list",data:=.seq vs.toArray}->IntsAre vs ns->ns.length<=n->(∀m∈ns,L2.ibN m<=1048576)->s₁.gens=#[]->
   codeAny (model l.prog w) callerA (.call (.ref fa) ⟨[.ref a],[]⟩) (λr s'=>r = .ok (.ret (.bool true))/\OldK s₁.heap s'.heap/\s'.os=s₁.os/\AllBare s'.gens) s₁):
  WalkO q loose XP YP l.row.toRowW d [] (λf vs=>PySem.call f vs):=by
 intro w s₀ s₁ mg mb G σ fa o pm cd doc dV kV ho hd hcd hD hmg hg args vals as hpre hlay hrd hwl hlo
 obtain rfl:dV = .none:=Dflts.none hD hdf
 obtain rfl:kV = .none:=Dflts.noKw hD
 obtain⟨a,vs,ns,rfl,rfl,hobj,hints,hlen⟩:=Xrk hn hpre hwl
 have hbits:∀m∈ns,L2.ibN m<=1048576:=λm hm=>by
  have h1:=L2.Xmv ns m hm
  have h2:WData.weight (WData.list (ns.map WData.int))<=2^20:=by
   simp only[WData.layableAll,all_cons,WData.layable,and_eq_true,decide_eq_true_eq]at hlay
   exact hlay.1.2
  simp only[WData.weight]at h2
  lia
 refine enter_call (codeAny_mono (call w s₀ s₁ mg mb fa o pm cd doc a vs ns G σ ho (fd_plain hd) hcd hmg hobj hints hlen hbits hg) λr s' hq=>?_)
 obtain⟨rfl,h2,h3,h4⟩:=hq
 exact⟨.inl ⟨.bool true,.bool true,[],rfl,λ_=>rfl,.bool true,Xr5 l _,λ_=>⟨List.Pairwise.nil,λ_ hm=>(nomatch hm)⟩⟩,h2,h3,h4⟩
end Att
namespace L2
open PySem PySem.Spec PyProof.Rows
theorem Yag {l:PySem.W.OpenLaw}{k:Nat}{q:Program}{loose:List Str}{XP:(Str->Option Value)->Heap->Prop}{YP:World->Heap->Prop}{d:DefRec}{K:Params->Frag}(hn:l.most=some 63)(hdf:d.params.defaults=[])(hr:Room k callerA)
  (hY:∀(w:World) (h:Heap),YP w h->(K w.params).In h)
  (F:∀(w:World) (mg:Str->Option Value) (fa:Addr) (h:Heap),(K w.params).In h->h.Ns mainGlobals mg->mg d.name=some (.ref fa)->
   ∃fd:FuncData,(∀(s:Shared) (u:Value),BindsTo s fd ⟨[u],[]⟩ [("_law_script",u)])/\∀base:Heap,(K w.params).In base->base.Ns mainGlobals mg->FnOk l.prog w (K w.params) mg base CX0 k fa fd ["_law_script"] (Xu8 (K w.params))):
  PySem.W.WalkO q loose XP YP l.row.toRowW d [] (λf vs=>PySem.call f vs):=by
 refine Att.attach_callB hn hdf λw s₀ s₁ mg mb fa o pm cd doc a vs ns G σ ho hd hcd hmg hobj hints hlen hbits hg=>?_
 have KX:=hY w _ σ
 obtain⟨fd,hb,hF⟩:=F w mg fa _ KX G.T.g hmg
 exact Xvv (sp:=Xu8 (K w.params)) KX G.T.g G.T.b G.T.builtins G.T.nolimit hg hobj hints (le_trans hlen (by decide)) hr hF hb (λH hO hS=>⟨rfl,a,ns,rfl,hS,hlen,hbits,λ_=>rfl⟩) λH e s' z=>z
theorem Yii {P:Program}{w:World}{K:Frag}{mg:Str->Option Value}{base:Heap}{st:Stmt}{f:Addr}{fd:FuncData}{N:List Str}{k:Nat}(Df:DefAt K mg "law" st f fd)(S:FnScope N ["_law_script"] (Xae st))
  (hbody:∀(cdv:Value) (A:Around) (outer:List Env) (s:Shared) (H:Hp) (E:XK),Room k (A.deeper (envOfC "law" (Xae st) s.heap.objs.size f cdv))->
   ∃t T,PSs (Xjs CX0 P w K mg base N "law" (Xae st) f cdv A outer s H E).nox (Xbi st) t/\Xc3 K t T/\∀ns:List Int,ns.length<=63->(∀m∈ns,ibN m<=1048576)->T {nx:=λ_=>False,rt:=λr=>r = .fz (.bl true)} (Xeo N [.lst (ns.map .int)])):FnOk P w K mg base CX0 (k+1) f fd ["_law_script"] (Xu8 K):=
 Df.fn.ok S (λvs H Q E h=>h.1) λcdv A outer s H vs Q E hr h=>by
  obtain⟨_,a,ns,rfl,hS,hlen,hbits,q⟩:=h
  obtain⟨t,T,h1,h2,h3⟩:=hbody cdv A outer s H E hr
  have hr':Xb1 K H [.lst (ns.map D.int)] [.ref a]:=⟨_,_,rfl,⟨a,_,rfl,hS,Xkd.mpr rfl⟩,rfl⟩
  refine⟨t,h1,h2 H H H H (Xd3 N [.ref a]) (Xeo N [.lst (ns.map .int)]) {nx:=λ_=>False,rt:=λr=>r = .fz (.bl true)} _ ⟨_,Xhi (Xbj.refl H) hr'⟩ ⟨λF' H' Y δ e p=>p.elim,λ_ _ _ _ _ z=>z.elim,λ_ _ _ _ _ z=>z.elim,λF' H' r v x n p=>?_⟩ (h3 ns hlen hbits)⟩
  subst p
  obtain⟨A,n1,_⟩:=n
  have:v = .bl true:=n1.2
  subst this
  exact q H'
section
variable {X:Cx}{K:Frag}{mg:Str->Option Value}
end
def Yms (E:DE):DE:=λδ P=>E δ λd=>match d with
 | .int i=>P (.int (ibN i))
 |_=>False
section
variable {X:Cx}{K:Frag}
def rBitL:V->List V->Hp->VK->Prop:=λx xs H Q=>∃i,x = .int i/\xs=[]/\Q (.int (ibN i)) H
theorem Yia:MtR X "int.bit_length" rBitL:=by
 intro pins s Y H x vs v us Q I rx rv h
 obtain⟨i,rfl,rfl,q⟩:=h
 obtain⟨t,rfl⟩:=rx
 cases rv
 refine call_int_bit_length ?_
 rw[Yl1]
 exact⟨.int _,H,I.tok _,⟨_,rfl⟩,q⟩
theorem Yg2 (h:Xe6 K to E): Xdi K (Ym3 K "int" rBitL to) (Yms E):=λF0 H0 F H Y δ P Q e w q=>h F0 H0 F H Y δ _ _ e w λd v F1 H1 w1 x1 r1=>by
 split at w1
 .have e1:v=_:=r1
  subst e1
  exact⟨rfl,_,rfl,rfl,q _ _ F1 H1 w1 x1 rfl⟩
 .exact w1.elim
theorem Ybv:CbS K (Ykx K) Yic:=λF H ds vs P Q s rs w q=>by
 unfold Yic at w
 split at w
 .obtain ⟨ns,rfl,hn,w⟩:=w
  obtain⟨v,rfl,p,us,rfl,h1,h2⟩:=Xhe rs
  rw[Xkd]at h2
  subst h2
  exact⟨p,ns,rfl,h1,hn,λM hM hA=>q _ _ F H (w M hM hA) (Ext.refl s) rfl⟩
 .exact w.elim
end
section
variable {K:Frag}{mg:Str->Option Value}
end
section
variable {X:Cx}{K:Frag}
end
section
variable {X:Cx}{K:Frag}
end
section
variable {X:Cx}{K:Frag}{mg:Str->Option Value}
theorem Inv.turnedL {pins:List (Addr×Obj)}{Y:St}{H:Hp}{s:Shared}{h':Heap}{t':Nat}{L:List Addr}(I:Inv X pins Y H s)(k:∀b o,b∉L->s.heap.get? b=some o->h'.get? b=some o)(f:∀b∈L,Xmt X pins H b):Inv X pins Y H {s with heap:=h',toks:=t'}:=by
 have nn:∀b u,H b=some u->b∉L:=λb u e z=>by
  obtain⟨p0,_⟩:=f b z
  rw[p0]at e;cases e
 refine I.step (g':=s.gens) (d':=s.drawn) (λb hb=>?_) (λb o _ _ hc e _=>k b o hc e) (λb o _ _ hc e _=>⟨o.slots,k b o hc e⟩) (λ_ _ _ _ n=>n)
  (λb o hc e=>⟨o,k b o hc e⟩) (λ_ _ e=>e) (λ_ _ _ e=>e) (λb ps e=>⟨#[],by rw[e];simp⟩) (λm hm=>?_) (λb u e=>?_) I.bare
 .obtain ⟨p0,p1,p2,p3,p4,p5⟩:=f b hb
  exact⟨p3,p1,p4,p5⟩
 .obtain ⟨o,es,ep,ho,r⟩:=hm
  refine⟨o,es,ep,k _ o (λz=>?_) ho,r⟩
  obtain⟨p0,p1,_⟩:=f _ z
  exact p1 rfl
 .refine (I.hok b u e).stay (λc v hc q=>k c v ?_ q) (λ_ q=>q) λ_ _ q=>q
  rcases hc with z |z
  .rw [z];exact nn b u e
  .exact nn c _ z
end
def Ymj (Eo:DO)(Eb:DE):DO:=λδ P=>Eo δ λr=>match r with
 | .nl [.fz d]=>Eb δ λy=>match y with
  | .int k=>(0<=k/\k<=1000000)/\P (.nl (List.replicate k.toNat (.fz d)))
  |_=>False
 |_=>False
section
variable {X:Cx}{K:Frag}{mg:Str->Option Value}
theorem Xb1.rep (h:Rep K F d v): ∀n:Nat,Xb1 K F (List.replicate n d) (List.replicate n v)
 | 0=>rfl
 |n+1=>⟨v,List.replicate n v,rfl,h,Xb1.rep h n⟩
theorem Xty (ha:Xjx K ta Eo)(hb:Xe6 K tb Eb): Xjx K (tOp Yox ta tb) (Ymj Eo Eb):=λF0 H0 F H Y δ P Q e w q=>
 ha F0 H0 F H Y δ _ _ e w λr v F1 H1 w1 x1 r1=>by
  split at w1
  .rename_i d
   obtain⟨A0,⟨p,vs,B,rfl,rfl,hp,hB⟩,a2,a3⟩:=r1
   obtain⟨v0,r0,B1,C,rfl,rfl,⟨_,rd⟩,hC,_⟩:=hB
   subst hC
   refine hb F0 H0 F1 H1 Y δ _ _ (e.on x1) w1 λy u F2 H2 w2 x2 r2=>?_
   split at w2
   .rename_i k
    obtain⟨⟨k0,k1⟩,pr⟩:=w2
    have x12:=x1.trans x2
    cases r2
    refine⟨p,k,[v0],rfl,rfl,x2.hh _ _ hp,by lia,by lia,Xd0 (by simp;omega),λl l0=>?_⟩
    have ef:(List.replicate k.toNat [v0]).flatten=List.replicate k.toNat v0:=List.flatten_replicate_singleton
    rw[ef]
    have em:(List.replicate k.toNat d).map OV.fz=List.replicate k.toNat (OV.fz d):=List.map_replicate
    refine q _ _ F2 _ pr (x12.trans (Ext.grow x2.fh (Xbj.new l0))) ?_
    rw[<- em]
    exact Xlg.list (x12.hh.free l0) (x2.fh.free l0) Xay (Xb1.rep (rd.mono x2.ff) _)
   .exact w2.elim
  .exact w1.elim
end
section
variable {prog:Program}{w:World}{A:Around}{E:Value->Shared->Prop}{s:Shared}
end
section
variable {X:Cx}{K:Frag}{tg:Expr}
end
section
variable {X:Cx}{K:Frag}
end
section
variable {prog:Program}{w:World}{A:Around}{E:Value->Shared->Prop}{s:Shared}
theorem Xsu {t sl:Addr}{items:Array Value}{vl vu:Value}{lo hi:Option Int}{Q:Value->Shared->Prop}(ht:IsTup s.heap t items)(hs:s.heap.IsSliceOf sl vl vu .none)(pl:IsPart vl lo)(pu:IsPart vu hi)
  (hw:HT.sIx items.size 0 lo=0/\HT.sIx items.size items.size hi=items.size) (h:Q (.ref t) s):wpAny (model prog w) A (getItem (.ref t) (.ref sl)) Q E s:=by
 obtain⟨os,hos,hcs,hds⟩:=id hs
 have hTs:s.TypeIs (.ref sl) "slice":=⟨os,hos,hcs⟩
 unfold getItem
 try with_reducible refine wpAny_holding ?_
 refine wpAny_bind (wpAny_sequenceKey ht.typeIs rfl ?_)
 refine wpAny_bind (wpAny_callSpecial?_slot (name:=Str.ofString "__getitem__") ht.typeIs PyProof.Rows.slot_tuple_getitem
  (wpAny_call_entry PyProof.Rows.slot_tuple_getitem ht.typeIs entry_tuple_getitem ?_ (args_tuple_getitem _ _)))
 show wpAny _ _ (Builtin.Tuple.tupleItemsOf (.ref t) >>= _) _ _ s
 refine wpAny_bind (tupleItemsOf_ ht ?_)
 refine wpAny_bind (wpAny_typeOf hTs ?_)
 refine wpAny_bind (HT.sliceApplied_gen hs pl pu ?_)
 have hyes:((((HT.sIx items.size 0 lo:Nat):Int)==0 && (1:Int)==1 && (HT.sIx items.size items.size hi-HT.sIx items.size 0 lo)==items.size)=true):=by
  rw[hw.1,hw.2];simp
 show wpAny _ _ (if (((HT.sIx items.size 0 lo:Nat):Int)==0 && (1:Int)==1 && (HT.sIx items.size items.size hi-HT.sIx items.size 0 lo)==items.size)=true then _ else _) _ _ s
 rw[if_pos hyes]
 refine wpAny_bind (m:=Builtin.Tuple.tupleIsExact (.ref t)) ?_
 refine wpAny_bind (wpAny_typeOf ht.typeIs (wpAny_pure ?_))
 refine wpAny_bind (wpAny_rule ?_)
 exact wpAny_pure ⟨_,rfl,wpAny_pure h⟩
end
def Ykv (K:Frag):V->Option Int->Option Int->Hp->VK->Prop:=λx lo hi H Q=>∃a xs,x = .ref a/\SqT K H a xs/\((HT.sIx xs.length 0 lo=0/\HT.sIx xs.length xs.length hi=xs.length)->Q (.ref a) H)/\
 (¬ (HT.sIx xs.length 0 lo=0/\HT.sIx xs.length xs.length hi=xs.length)->∀p,H p=none->Q (.ref p) (upd H p (.tup (Yb3 xs lo hi))))
theorem Ygd:SlR X (Ykv X.K):=by
 intro pins s Y H x v vl vu lo hi sl Q I rx hs pl pu h
 obtain⟨a,xs,rfl,hx,q1,q2⟩:=h
 by_cases hw:HT.sIx xs.length 0 lo=0/\HT.sIx xs.length xs.length hi=xs.length
 .cases rx
  obtain⟨its,r,ht,hz⟩:=I.tuple hx
  have hlen:its.toArray.size=xs.length:=by rw[size_toArray];exact r.length.symm
  refine⟨"tuple",_,PyProof.Rows.slot_tuple_getitem.lookup,ht.typeIs,?_⟩
  exact Xsu ht hs pl pu (by rw[hlen];exact hw) ⟨.ref a,H,I,rfl,q1 hw⟩
 .exact Ykd pins s Y H (.ref a) v vl vu lo hi sl Q I rx hs pl pu ⟨a,xs,rfl,hx,hw,q2 hw⟩
def Ypc (Ea:DE)(L U:DPt):DE:=λδ P=>Ea δ λx=>L δ λlo=>U δ λhi=>match x with
 | .tup xs=>P (.tup (Yfs xs lo hi))
 |_=>False
theorem Xxs {xs:List D}{lo hi:Option Int}(h:HT.sIx xs.length 0 lo=0/\HT.sIx xs.length xs.length hi=xs.length):Yfs xs lo hi=xs:=by
 unfold L2.Yfs
 rw[h.1,h.2,drop_zero,Nat.sub_zero,take_length]
theorem Ykq {K:Frag}{ta:TE}{Ea:DE}{tl tu:TO}{L U:DPt}(ha:Xdi K ta Ea)(hl:Yfy K tl L)(hu:Yfy K tu U):Xdi K (tSl (Ykv K) ta tl tu) (Ypc Ea L U):=λF0 H0 F H Y δ P Q e w q=>
 ha F0 H0 F H Y δ _ _ e w λx v F1 H1 w1 x1 r1=>hl F0 H0 F1 H1 Y δ _ _ (e.on x1) w1 λlo F2 H2 w2 x2=>hu F0 H0 F2 H2 Y δ _ _ ((e.on x1).on x2) w2 λhi F3 H3 w3 x3=>by
  have x13:=x1.trans (x2.trans x3)
  split at w3
  .obtain ⟨p,vs,rfl,h1,h2⟩:=r1.mono (x2.ff.trans x3.ff)
   have hln:=h2.length
   refine⟨p,vs,rfl,x3.fh.seqT h1,λhw=>?_,λhw l l0=>?_⟩
   .rw [<- hln]at hw
    rw[Xxs hw]at w3
    exact q _ _ F3 H3 w3 x13 ⟨p,vs,rfl,h1,h2⟩
   .exact q _ _ _ _ w3 (x13.trans (Ext.new x3.fh l0 (Xbj.new l0) Xay)) ⟨l,_,rfl,.inl (.inl Xay),(h2.cut lo hi).mono (Xbj.upd' (x3.fh.free l0))⟩
  .exact w3.elim
section
variable {X:Cx}{K:Frag}{mg:Str->Option Value}
end
section
variable {X:Cx}{K:Frag}{mg:Str->Option Value}
theorem ER.drop {F0 H0 F H:Hp}{Y:St}{δ:Dst}{A:Nat->List Addr}(e:ER K F0 H0 F H Y δ A)(i:Nat):ER K F0 H0 F H Y (δ.set i none) (λj=>if j=i then [] else A j):=by
 have off:∀(j:Nat) (s:Sl),(δ.set i none)[j]?=some (some s)->j≠i/\δ[j]?=some (some s):=λj s hj=>by
  by_cases z:j=i
  .subst z
   have hi:j<δ.length:=by
    have:=(List.getElem?_eq_some_iff.mp hj).1
    rwa[length_set]at this
   rw[getElem?_set_self hi]at hj
   cases hj
  .rw [getElem?_set_ne (Ne.symm z)]at hj
   exact⟨z,hj⟩
 refine⟨by simp[e.len],e.ext,λj t hj=>?_,λj d hj=>e.bw j d (off j _ hj).2,λj=>?_,λj k a hjk h1 h2=>?_,λj a ha=>?_⟩
 .obtain ⟨z,hj⟩:=off j _ hj
  rw[if_neg z]
  exact e.own j t hj
 .split
  .exact nodup_nil
  .exact e.nod j
 .split at h1
  .cases h1
  .split at h2
   .cases h2
   .exact e.dis j k a hjk h1 h2
 .split at ha
  .cases ha
  .exact e.new j a ha
def Ybz (K:Frag)(mg:Str->Option Value)(x:Str)(d:D):Prop:=∃a,mg x=some (.ref a)/\∀F,Rep K F d (.ref a)
def tGl (K:Frag)(d:D):TE:=λ_ H Q=>∀v,(∀F,Rep K F d v)->Q v H
theorem Xeh (hg:Gl X x)(hm:Ybz X.K X.mg x d)(hd:(x==("__debug__":Str))=false:=by decide): PE X (.Name x pos) (tGl X.K d):=by
 intro pins s Y H Q I h
 obtain⟨a,e,r⟩:=hm
 exact Xjp (v:=.ref a) hg e rfl hd pins s Y H Q I (h _ r)
theorem Xfd (hg:Gl X x)(hm:∃t,X.mg x=some (.str z t))(hd:(x==("__debug__":Str))=false:=by decide): PE X (.Name x pos) (tC (.str z)):=by
 obtain⟨t,e⟩:=hm
 exact Xjp hg e ⟨t,rfl⟩ hd
theorem Xqa:Xdi K (tGl K d) (dC d):=λF0 H0 F H Y δ P Q e w q=>λv r=>q d v F H w (Ext.refl e.ext.fh) (r F)
end
open PySem PySem.Spec PyProof.Rows PyProof.V PySem.W
section
variable {P:Program}{w:World}{H:Hp}{h:Heap}{a:Addr}{o:HO}
theorem Xe7.at:∀{o:HO},Xe7 P w H h a o->∃u,h.get? a=some u
 | .lst _,x=>by obtain⟨_,_,_,_,e⟩:=x;exact⟨_,e⟩
 | .tup _,x=>by obtain⟨_,_,_,ob,e,_⟩:=x;exact⟨_,e⟩
 | .dK _,x=>by obtain⟨_,_,_,_,o,_,_,e,_⟩:=x;exact⟨_,e⟩
 | .dT _,x=>by obtain⟨_,_,_,_,o,_,_,e,_⟩:=x;exact⟨_,e⟩
 | .set _ _,x=>by obtain⟨o,_,_,_,e,_⟩:=x;exact⟨_,e⟩
 | .ins _ _ _,x=>by obtain⟨_,_,_,e,_⟩:=x;exact⟨_,e⟩
 | .own _,x=>x
 | .xd _,x=>by obtain⟨_,⟨od,_,_,e,_⟩,_⟩:=x;exact⟨_,e⟩
 | .rng _ _,x=>by obtain⟨_,_,_,e⟩:=x;exact⟨_,e⟩
 | .frz _ _,x=>⟨_,x.1⟩
 | .tbl _,x=>⟨_,x⟩
 | .met _ _,x=>⟨_,x⟩
 | .ext _,x=>x.2.1
end
def CXE (P:Program)(w:World):CXT:=λouter H s E e s'=>∃(a C:Addr) (a0:Value) (B:Heap) (H':Hp),e = .ref a/\E (.ref C) none H'/\Heap.FlyingW B outer a (.ref C) a0 s'.heap/\
 (∀b o,s'.heap.get? b=some o->b∉frs outer->((∃o0,s.heap.get? b=some o0)∨∃u,H' b=some u)->B.get? b=some o)/\Un (frs outer) [] H H' s.heap s'.heap/\HOk P w H' s'.heap/\AllBare s'.gens/\s'.os=s.os/\H' a=none
section
variable {P:Program}{w:World}{K:Frag}{mg:Str->Option Value}{base:Heap}{N:List Str}{qual:Str}{scope:Scope}{f:Addr}{cd:Value}{A:Around}{outer:List Env}{s:Shared}{H:Hp}{E:XK}
theorem Xk7 {pins:List (Addr×Obj)}{Y:St}{H1 H':Hp}{s1 s':Shared}{a C0:Addr}{a0:Value}{B h7:Heap}{Z:List Addr}(I:Inv (Xjs (CXE P w) P w K mg base N qual scope f cd A outer s H E) pins Y H1 s1)
  (hE:E (.ref C0) none H') (z1:Heap.FlyingW B outer a (.ref C0) a0 h7)
  (agree:∀b o,s'.heap.get? b=some o->b∉frs (envOfC qual scope s.heap.objs.size f cd::outer)->b∉Z->((∃o0,s1.heap.get? b=some o0)∨∃u,H' b=some u)->B.get? b=some o)
  (slotF:∀b o,b∈frs (envOfC qual scope s.heap.objs.size f cd::outer)->s'.heap.get? b=some o->∃sl,h7.get? b=some {o with slots:=sl})
  (hZ:∀b∈Z,s.heap.objs.size<=b/\H' b=none)
  (un:Un (frs (envOfC qual scope s.heap.objs.size f cd::outer)) [] H1 H' s1.heap s'.heap) (hok:HOk P w H' s'.heap) (bare:AllBare s'.gens) (hos:s'.os=s1.os) (hna:H' a=none):
  CXE P w outer H s E (.ref a) {s' with heap:=h7}:=by
 have hbase:Un (frs outer) [] H H1 s.heap s1.heap:=I.base
 have sup:∀b,b∈frs outer->b∈frs (envOfC qual scope s.heap.objs.size f cd::outer):=λb hb=>by
  obtain⟨e,he,hf⟩:=mem_filterMap.mp hb
  exact mem_filterMap.mpr ⟨e,mem_cons_of_mem _ he,hf⟩
 have old:∀b o,s.heap.get? b=some o->b∉frs outer->b∉frs (envOfC qual scope s.heap.objs.size f cd::outer):=λb o q hb z=>by
  obtain⟨e,he,hf⟩:=mem_filterMap.mp z
  rcases mem_cons.mp he with rfl |he
  .rw [<- Option.some.inj hf]at q;exact absurd (lt_size q) (lt_irrefl _)
  .exact hb (mem_filterMap.mpr ⟨e,he,hf⟩)
 have hu:∀b u,H' b=some u->b∉frs (envOfC qual scope s.heap.objs.size f cd::outer)/\b∉Z:=λb u e=>by
  refine⟨λz=>?_,λz=>by rw[(hZ b z).2]at e;cases e⟩
  obtain⟨_,o,ho,_⟩:=I.stack.mem z
  rw[un.free b o ho (I.stkFree b z) (by simp)]at e;cases e
 have lt:∀b o,s.heap.get? b=some o->b∉Z:=λb o q z=>absurd (lt_size q) (Nat.not_lt.mpr (hZ b z).1)
 refine⟨a,C0,a0,B,H',rfl,hE,z1,λb o q hb hc=>?_,⟨λb o q n hb hx=>?_,λb o q n hb hx=>?_,λb o q n hx=>?_,λb o q hx=>?_,λb xs e=>un.tups b xs (hbase.tups b xs e),λb o u e=>un.frzs b o u (hbase.frzs b o u e),λb ps e=>?_⟩,λb u e=>?_,bare,hos.trans I.os,hna⟩
 .have key:∃o2,B.get? b=some o2:=by
   rcases hc with⟨o0,q0⟩ | ⟨u,q0⟩
   .obtain ⟨o1,q1⟩:=hbase.there b o0 q0 (by simp)
    obtain⟨o2,q2⟩:=un.there b o1 q1 (by simp)
    exact⟨o2,agree b o2 q2 (old b o0 q0 hb) (lt b o0 q0) (.inl ⟨o1,q1⟩)⟩
   .obtain ⟨o2,q2⟩:=(hok b u q0).at
    exact⟨o2,agree b o2 q2 (hu b u q0).1 (hu b u q0).2 (.inr ⟨u,q0⟩)⟩
  obtain⟨o2,q2⟩:=key
  have:=z1.1 b o2 q2
  rw[q]at this;cases this
  exact q2
 .have q1:=hbase.keep b o q n hb hx
  exact z1.1 b o (agree b o (un.keep b o q1 (hbase.free b o q n hx) (old b o q hb) (by simp)) (old b o q hb) (lt b o q) (.inl ⟨o,q1⟩))
 .obtain ⟨sl,q1⟩:=hbase.slot b o q n hb hx
  obtain⟨sl2,q2⟩:=un.slot b _ q1 (hbase.free b o q n hx) (sup b hb) (by simp)
  obtain⟨sl3,q3⟩:=slotF b _ (sup b hb) q2
  exact⟨sl3,q3⟩
 .obtain ⟨o1,q1⟩:=hbase.there b o q hx
  exact un.free b o1 q1 (hbase.free b o q n hx) (by simp)
 .obtain ⟨o1,q1⟩:=hbase.there b o q hx
  obtain⟨o2,q2⟩:=un.there b o1 q1 (by simp)
  by_cases hb:b∈frs (envOfC qual scope s.heap.objs.size f cd::outer)
  .obtain ⟨sl,q3⟩:=slotF b o2 hb q2
   exact⟨_,q3⟩
  .exact ⟨_,z1.1 _ _ (agree b o2 q2 hb (lt b o q) (.inl ⟨o1,q1⟩))⟩
 .obtain ⟨more,e1⟩:=hbase.tbls b ps e
  obtain⟨more2,e2⟩:=un.tbls b _ e1
  exact⟨more++more2,by rw[e2,Array.append_assoc]⟩
 .refine (hok b u e).stay (λc v hc q=>?_) (λ_ q=>q) λ_ _ q=>q
  have hcu:∃u,H' c=some u:=by
   rcases hc with rfl |hc
   .exact ⟨_,e⟩
   .exact ⟨_,hc⟩
  obtain⟨u',hu'⟩:=hcu
  exact z1.1 _ _ (agree c v q (hu c u' hu').1 (hu c u' hu').2 (.inr ⟨u',hu'⟩))
theorem Xr3 {pins:List (Addr×Obj)}{Y:St}{H1:Hp}{s1:Shared}{C a:Addr}{args:List Value}{h2:Heap}(I:Inv (Xjs (CXE P w) P w K mg base N qual scope f cd A outer s H E) pins Y H1 s1)(hx:Heap.MadeExcOf s1.heap h2 a (.ref C) args)
  (hE:E (.ref C) none H1):(Xjs (CXE P w) P w K mg base N qual scope f cd A outer s H E).xe (.ref a) {s1 with heap:=h2}:=by
 refine wpAny_leaves_madeW (base:=hideAll s1.heap (frs (envOfC qual scope s.heap.objs.size f cd::outer))) I.ok.frames rfl (λb o q=>of_hideAll _ q) (PySem.W.funFrames_hide I.stack λe he b hb=>mem_filterMap.mpr ⟨e,he,hb⟩) hx λh' t x1 x2 x3 x4=>?_
 refine Xk7 (s':=s1) (Z:=[]) I hE x1 (λb o q hb _ _=>hideAll_get _ q hb) (λb o hb q=>?_) (λ_ z=>by cases z) Un.refl I.hok I.bare rfl ?_
 .obtain ⟨_,o',ho',hd⟩:=I.stack.mem hb
  rw[q]at ho';cases ho'
  exact x4 b o (hx.keeps b o q) hd
 .cases q:H1 a with
  |none=>rfl
  |some u=>
   obtain⟨o,ho⟩:=(I.hok a u q).at
   rw[hx.new]at ho;cases ho
def Yea (tm:TE)(EX:Hp->Prop):TS:=λ_ Y H=>tm Y H λx H1=>[x].length<=sizeLine/\EX H1
theorem Xim (hg:Gl (Xjs (CXE P w) P w K mg base N qual scope f cd A outer s H E) x)(O:OwnCls x C bmB newId mg base)(FB:ExcBaseFacts B newId initId bmB)
  (hh:(A.deeper (envOfC qual scope s.heap.objs.size f cd)).handled=none) (he:PE (Xjs (CXE P w) P w K mg base N qual scope f cd A outer s H E) e₀ tm) (hd:(x==("__debug__":Str))=false:=by decide)
  (hs:starEach [e₀] (envOfC qual scope s.heap.objs.size f cd)=[(false,eval e₀ (envOfC qual scope s.heap.objs.size f cd))]:=by rfl):
  PS (Xjs (CXE P w) P w K mg base N qual scope f cd A outer s H E) (.Raise (some (.Call (.Name x np) [e₀] [] cpos)) none pos) (Yea tm λH'=>E (.ref C) none H'):=by
 intro pins s1 Y H1 D I h
 obtain⟨tl,N',nm,q,bs,hdct,sn,sub,ab,col,dd,k0,k1,k2,k3,k5,mN,hC,hN,hni,T⟩:=O.obj
 refine wpAny_Raise_call_subT (nm:=nm) (q:=q) (N:=N') (bs:=bs) (hdct:=hdct) (sn:=sn) (sub:=sub) (ab:=ab) (col:=col) (dd:=dd) (k0:=k0) (k1:=k1) (k2:=k2) (k3:=k3) (k5:=k5)
  FB (T.hasType FB.hasBase) hh ?_ hni (Xh3 I hg O.bound ⟨rfl,?_⟩ hd)
 .show (backTo cpos (starEach [e₀] (envOfC qual scope s.heap.objs.size f cd))).any (·.1)=false
  rw[hs];rfl
 .have ha:=(Xaa he Xac hs) cpos pins s1 Y H1 (λvs H2=>vs.length<=sizeLine/\E (.ref C) none H2) I h
  change wpAny _ _ (spliced (backTo cpos (starEach [e₀] (envOfC qual scope s.heap.objs.size f cd)))) _ _ s1 at ha
  show wpAny _ _ (evalArgs (.ref C) true (backTo cpos (starEach [e₀] (envOfC qual scope s.heap.objs.size f cd))) []) _ _ s1
  rw[hs]at ha ⊢
  refine Calls.evalArgs_plain (wpAny_mono ha (λus s2 h2=>?_) λ_ _ y=>y)
  obtain⟨vs,H2,I2,r,hl,q2⟩:=h2
  refine⟨rfl,?_,I2.bk _ _ hC,hN.keeps I2.bk,T.keeps I2.bk,λh' e hm=>Xr3 I2 hm q2⟩
  rw[<- r.length];exact hl
end
abbrev Cx.hdl (X:Cx)(a:Addr):Cx:={X with A:=X.A.mark (some (.ref a)),calm:=false,xe:=λ_ _=>False}
section
variable {X:Cx}{pins:List (Addr×Obj)}{Y:St}{H:Hp}{s:Shared}
theorem Inv.hdl (I:Inv X pins Y H s)(a:Addr): Inv (X.hdl a) pins Y H s:=
 ⟨⟨I.ok.mod,I.ok.kind,I.ok.glob,I.ok.blt,I.ok.above,I.ok.inj,I.ok.has,I.ok.cab,(λz=>by cases z),I.ok.frames,I.ok.stk,I.ok.exf,I.ok.bs,I.ok.bsz,I.ok.noex,I.ok.exfs,I.ok.funs,I.ok.frf⟩,I.os,I.bare,I.base,I.loc,I.cell,I.free,I.freeC,I.pin,I.hok,I.len⟩
theorem Inv.unhdl (ok:X.Ok)(I:Inv (X.hdl a) pins Y H s): Inv X pins Y H s:=⟨ok,I.os,I.bare,I.base,I.loc,I.cell,I.free,I.freeC,I.pin,I.hok,I.len⟩
theorem Inv.goes {m:Str->Option Value}(I:Inv X pins Y H s)(hN:X.N.Nodup)(hi:X.N[i]?=some n)(hl:∀(j:Nat) (x:Str) (w:V),X.N[j]?=some x->Y[j]?=some (some w)->Vis X.env.scope x->∃u,Xdh w u/\Ypn X.env s.heap m x u)
  (hn:h'.Ns X.env.locals (λx=>if x=n then v else m x)) (hs:Heap.SameBut X.env.locals s.heap h'): Inv X pins (Y.set i none) H {s with heap:=h',toks:=tk}:=by
 have cne:=I.cne
 have lt:∀{b o},X.s₀.heap.get? b=some o->b≠X.env.locals:=λ{b o} e=>ne_of_lt (lt_of_lt_of_le (lt_size e) I.ok.above)
 refine⟨I.ok,I.os,I.bare,⟨λb o e n hb hx=>?_,λb o e n hb hx=>?_,I.base.free,λb o e hx=>?_,I.base.tups,I.base.frzs,I.base.tbls⟩,⟨_,hn,λj y v' e1 e2 e3=>?_⟩,λy c e=>?_,I.free,I.freeC,λp hp=>?_,λb ob e=>?_,by simpa using I.len⟩
 .exact (hs.2 b (lt e)).trans (I.base.keep b o e n hb hx)
 .obtain ⟨sl,e1⟩:=I.base.slot b o e n hb hx
  exact⟨sl,(hs.2 b (lt e)).trans e1⟩
 .obtain ⟨o',e1⟩:=I.base.there b o e hx
  exact⟨o',(hs.2 b (lt e)).trans e1⟩
 .by_cases hj:j=i
  .subst hj
   have hjl:j<Y.length:=by rw[I.len];exact (List.getElem?_eq_some_iff.mp hi).1
   rw[getElem?_set_self hjl]at e2
   cases e2
  .rw [getElem?_set_ne (Ne.symm hj)]at e2
   obtain⟨u',r',q⟩:=hl j y v' e1 e2 e3
   refine⟨u',r',?_⟩
   rcases q with⟨k,e⟩ | ⟨k,c,e,z⟩
   .refine .inl ⟨k,?_⟩
    have:y≠n:=λe=>hj (Xqr hN e1 (e▸hi))
    simp[this,e]
   .exact .inr ⟨k,c,e,z.sameBut hs (cne y c e)⟩
 .obtain ⟨w',z⟩:=I.cell y c e
  exact⟨w',z.sameBut hs (cne y c e)⟩
 .obtain ⟨e,n,ne,nf,d⟩:=I.pin p hp
  exact⟨(hs.2 p.1 ne).trans e,n,ne,nf,d⟩
 .refine (I.hok b ob e).stay (λc w' hc q=>(hs.2 c ?_).trans q) (λ_ q=>q) λ_ _ q=>q
  rintro rfl
  have hf:=I.free
  rcases hc with rfl |hc
  .rw [hf]at e;cases e
  .rw [hf]at hc;cases hc
theorem Inv.caught {H':Hp}{s':Shared}{B:Heap}{a C:Addr}{a0:Value}{h6:Heap}(I:Inv X pins Y H s)(fl:Heap.FlyingW B X.stack a (.ref C) a0 s'.heap)
  (agree:∀b o,s'.heap.get? b=some o->b∉frs X.stack->((∃o0,s.heap.get? b=some o0)∨∃u,H' b=some u)->B.get? b=some o) (un:Un (frs X.stack) [] H H' s.heap s'.heap) (hok:HOk X.prog X.w H' s'.heap) (bare:AllBare s'.gens) (hos:s'.os=s.os) (hna:H' a=none)
  (fl6:Heap.FlyingW B X.stack a (.ref C) a0 h6) (sm:s'.heap.UpToSlots h6):Inv X pins Y (upd H' a (.ext (Xuq a (.ref C)))) {s' with heap:=h6}:=by
 have hfree:∀b∈frs X.stack,H' b=none:=λb hb=>by
  obtain⟨_,o,ho,_⟩:=I.stack.mem hb
  exact un.free b o ho (I.stkFree b hb) (by simp)
 have nonf:∀b∈frs X.stack,∀o,s'.heap.get? b=some o->∀vs,o.data≠.fields vs:=λb hb o q=>by
  obtain⟨_,o',ho',hd⟩:=fl.2.2.1.mem hb
  rw[q]at ho';cases ho';exact hd
 have keepB:∀b o,s'.heap.get? b=some o->b∉frs X.stack->((∃o0,s.heap.get? b=some o0)∨∃u,H' b=some u)->h6.get? b=some o:=λb o q hb hc=>fl6.1 b o (agree b o q hb hc)
 obtain⟨oe,ws,hoe,hoec,hoed,_⟩:=fl6.first
 have hsa:s.heap.get? a=none:=by
  cases q:s.heap.get? a with
  |none=>rfl
  |some o0=>
   obtain⟨o',q'⟩:=un.there a o0 q (by simp)
   by_cases hb:a∈frs X.stack
   .obtain ⟨oe',ws',he',_,hd',_⟩:=fl.first
    exact absurd hd' (nonf a hb oe' he' ws')
   .have:=agree a o' q' hb (.inl ⟨o0,q⟩)
    rw[fl.2.1]at this;cases this
 have ha:∀b u,H' b=some u->b≠a:=λb u e z=>by rw[z,hna]at e;cases e
 refine I.call' (ch:=[]) hos ⟨λb o q n hb hx=>?_,λb o q n hb hx=>?_,λb o q n hx=>?_,λb o q hx=>?_,λb xs e=>?_,λb o u e=>?_,λb ps e=>?_⟩ (λb u e=>?_) bare (λb z=>absurd z (by simp))
 .exact keepB b o (un.keep b o q n hb hx) hb (.inl ⟨o,q⟩)
 .obtain ⟨sl,q1⟩:=un.slot b o q n hb hx
  obtain⟨sl2,q2⟩:=sm b _ q1 (nonf b hb _ q1)
  exact⟨sl2,q2⟩
 .rw [Xbu λz=>by rw[z,hsa]at q;cases q]
  exact un.free b o q n hx
 .obtain ⟨o',q1⟩:=un.there b o q hx
  by_cases hb:b∈frs X.stack
  .obtain ⟨sl2,q2⟩:=sm b _ q1 (nonf b hb _ q1)
   exact⟨_,q2⟩
  .exact ⟨_,keepB b o' q1 hb (.inl ⟨o,q⟩)⟩
 .have:=un.tups b xs e
  rw[Xbu (ha b _ this)];exact this
 .have:=un.frzs b o u e
  rw[Xbu (ha b _ this)];exact this
 .obtain ⟨more,this⟩:=un.tbls b ps e
  exact⟨more,by rw[Xbu (ha b _ this)];exact this⟩
 .by_cases hb:b=a
  .subst hb
   rw[Xay]at e
   cases e
   exact⟨⟨oe,hoe,hoec⟩,⟨oe,hoe⟩,λh1 h2 ⟨o,e1,e2⟩ k=>⟨o,k o e1,e2⟩⟩
  .rw [Xbu hb]at e
   refine (hok b u e).stay (λc v hc q=>?_) (λc q=>by rw[Xbu (ha c _ q)];exact q) λc xs q=>by rw[Xbu (ha c _ q)];exact q
   have hcu:∃u,H' c=some u:=by
    rcases hc with rfl |hc
    .exact ⟨_,e⟩
    .exact ⟨_,hc⟩
   exact keepB c v q (λz=>by obtain⟨u,hu⟩:=hcu;rw[hfree c z]at hu;cases hu) (.inr hcu)
end
structure CalX (P:Program) (w:World) (K:Frag) (mg:Str->Option Value) (base:Heap) (x:Str) (k:Nat) (ps:List Str) (sp:Sp):Prop where
 ex:∃f fd,FnOk P w K mg base (CXE P w) k f fd ps sp/\mg x=some (.ref f)/\keepIn K (.ref f)=true/\Xj0 K fd ps []
section
variable {X:Cx}
end
open PySem PySem.Spec PyProof.Rows
abbrev DMo:=List OV->List D->(List OV->Prop)->Prop
def Ypj (c:Str)(ns:List Str)(j:Nat)(E:DE):DE:=λδ P=>E δ λd=>match d with
 | .obj c' ns' ds=>c'=c/\ns'=ns/\∃x,ds[j]?=some x/\P x
 |_=>False
def Yg3 (c:Str)(ns:List Str)(i j:Nat)(Eo:DO):DS:=λDe δ=>match δ[i]? with
 |some (some (.own (.ob o c' ns' ts)))=>c'=c/\ns'=ns/\j<ts.length/\Eo δ λr=>De.nx (δ.set i (some (.own (.ob o c ns (ts.set j r)))))
 |_=>False
def Yg5 (c:Str)(ns:List Str)(i j:Nat)(Eo:DO):DS:=λDe δ=>match δ[i]? with
 |some (some (.own (.ob o c' ns' ts)))=>c'=c/\ns'=ns/\j=ts.length/\Eo δ λr=>De.nx (δ.set i (some (.own (.ob o c ns (ts++[r])))))
 |_=>False
def Yg6 (c:Str)(ns:List Str)(i j:Nat)(g:Int->Int->Int)(E:DE):DS:=λDe δ=>match δ[i]? with
 |some (some (.own (.ob o c' ns' ts)))=>c'=c/\ns'=ns/\match ts[j]? with
  |some (.fz (.int x))=>E δ λd=>match d with
   | .int y=>De.nx (δ.set i (some (.own (.ob o c ns (ts.set j (.fz (.int (g x y))))))))
   |_=>False
  |_=>False
 |_=>False
def Yg7 (c:Str)(ns:List Str)(i j:Nat)(Eo:DO):DS:=λDe δ=>match δ[i]? with
 |some (some (.own (.ob o c' ns' ts)))=>c'=c/\ns'=ns/\match ts[j]? with
  |some (.nl us)=>us.length<1000000/\Eo δ λr=>De.nx (δ.set i (some (.own (.ob o c ns (ts.set j (.nl (us++[r])))))))
  |_=>False
 |_=>False
def Yg4 (c:Str)(ns:List Str)(i j k:Nat):DS:=λDe δ=>match δ[i]? with
 |some (some (.own (.ob o c' ns' ts)))=>c'=c/\ns'=ns/\∃us d,ts[j]?=some (.nl (us++[.fz d]))/\De.nx ((δ.set i (some (.own (.ob o c ns (ts.set j (.nl us)))))).set k (some (.own (.fz d))))
 |_=>False
def Ygu (c:Str)(ns:List Str)(i n:Nat)(sp:DMo)(As:DA):DS:=λDe δ=>match δ[i]? with
 |some (some (.own (.ob o c' ns' ts)))=>c'=c/\ns'=ns/\As δ λds=>ds.length+1=n/\sp ts ds λts'=>De.nx (δ.set i (some (.own (.ob o c ns ts'))))
 |_=>False
def Xp7 (c:Str)(ns:List Str)(i j:Nat)(sp:DMo):DS:=λDe δ=>match δ[i]? with
 |some (some (.own (.ob o c' ns' ts)))=>c'=c/\ns'=ns/\∃us d,ts[j]?=some (.nl (us++[.fz d]))/\sp (ts.set j (.nl us)) [d] λts'=>De.nx (δ.set i (some (.own (.ob o c ns ts'))))
 |_=>False
def Yfk (c:Str)(ns:List Str)(n:Nat)(sp:DSp)(E:DE)(As:DA):DO:=λδ P=>E δ λd=>match d with
 | .obj c' ns' fs=>c'=c/\ns'=ns/\As δ λds=>ds.length+1=n/\sp (.obj c ns fs::ds) λr=>r.lf=true/\P r
 |_=>False
def Ymn (c:Str)(ns:List Str)(n:Nat)(sp:DMo)(As:DA):DO:=λδ P=>As δ λds=>ds.length+1=n/\sp [] ds λts=>P (.ob none c ns ts)
def Xj2 (N:List Str)(c:Str)(ns:List Str)(a:Addr)(ts:List OV)(ds:List D):Dst:=some (.own (.ob (some a) c ns ts))::(ds.map (λd=>some (.own (.fz d)))++List.replicate (N.length-(ds.length+1)) none)
section
theorem Xsv:∀{ns:List Str} {vs:List V} {j:Nat},ns.Nodup->ns[j]?=some f->(ns.zip vs).lookup f=vs[j]?
 | [],_,_,_,h=>by simp at h
 |g::ns,[],j,_,_=>rfl
 |g::ns,v::vs,0,nd,h=>by
  simp at h
  subst h
  simp
 |g :: ns,v::vs,j+1,nd,h=>by
  have h':ns[j]?=some f:=h
  obtain⟨n1,n2⟩:=nodup_cons.mp nd
  have hne:(f==g)=false:=by
   rw[beq_eq_false_iff_ne]
   intro z
   exact n1 (by rw[<- z];exact mem_of_getElem? h')
  simp only[zip_cons_cons,List.lookup,hne]
  exact Xsv n2 h'
theorem Xgv:∀{ns:List Str} {vs:List V},f∉ns->(ns.zip vs).lookup f=none
 | [],_,_=>rfl
 |g::ns,[],_=>rfl
 |g :: ns,v::vs,h=>by
  have hne:(f==g)=false:=by
   rw[beq_eq_false_iff_ne]
   intro z
   exact h (by rw[z];exact mem_cons_self)
  simp only[zip_cons_cons,List.lookup,hne]
  exact Xgv λz=>h (mem_cons_of_mem _ z)
theorem Xqd:∀{ns:List Str} {vs:List V} {j:Nat},ns.Nodup->ns[j]?=some f->j<vs.length->Xof f u (ns.zip vs)=ns.zip (vs.set j u)
 | [],_,_,_,h,_=>by simp at h
 |g::ns,[],j,_,_,h=>by simp at h
 |g::ns,v::vs,0,nd,h,_=>by
  simp at h
  subst h
  simp[Xof]
 |g::ns,v::vs,j+1,nd,h,hl=>by
  have h':ns[j]?=some f:=h
  obtain⟨n1,n2⟩:=nodup_cons.mp nd
  have hne:¬ g=f:=λz=>n1 (by rw[z];exact mem_of_getElem? h')
  simp only[zip_cons_cons,Xof,if_neg hne,set_cons_succ]
  rw[Xqd n2 h' (by simpa using hl)]
theorem Xvk:∀{ns:List Str} {vs:List V},ns.Nodup->ns[vs.length]?=some f->Xof f u (ns.zip vs)=ns.zip (vs++[u])
 | [],_,_,h=>by simp at h
 |g::ns,[],nd,h=>by
  simp at h
  subst h
  simp[Xof]
 |g::ns,v::vs,nd,h=>by
  have h':ns[vs.length]?=some f:=h
  obtain⟨n1,n2⟩:=nodup_cons.mp nd
  have hne:¬ g=f:=λz=>n1 (by rw[z];exact mem_of_getElem? h')
  simp only[zip_cons_cons,Xof,if_neg hne,cons_append]
  rw[Xvk n2 h']
theorem Yez {A1 B0 A2 B1:List Addr}(h:(A1++(B0++A2)).Nodup)(h1:B1.Nodup)(h2:∀b∈B1,b∈B0∨b∉A1++(B0++A2)):(A1++(B1++A2)).Nodup:=by
 obtain⟨m1,m2,m3⟩:=nodup_append.mp h
 obtain⟨q1,q2,q3⟩:=nodup_append.mp m2
 refine nodup_append.mpr ⟨m1,nodup_append.mpr ⟨h1,q2,λx hx y hy z=>?_⟩,λx hx y hy z=>?_⟩
 .rcases h2 x hx with y' |y'
  .exact q3 x y' y hy z
  .exact y' (by rw[z];simp[hy])
 .rcases mem_append.mp hy with y' |y'
  .rcases h2 y y' with w |w
   .exact m3 x hx y (by simp[w]) z
   .exact w (by rw[<- z];simp[hx])
  .exact m3 x hx y (by simp[y']) z
end
structure ClsV (K:Frag) (c:Str) (ns:List Str):Prop where
 ex:∃C,nsIn K mainGlobals c=some (some (.ref C))/\Cls K C/\(∀f∈ns,Xkv K C f)
 nd:ns.Nodup
 few:ns.length<1000
structure MetAt (K:Frag) (c m q:Str) (st:Stmt) (f:Addr) (fd:FuncData):Prop where
 fn:Fun K m q st f fd
 cl:∃C,nsIn K mainGlobals c=some (some (.ref C))/\Cls K C/\Meth K C m f
structure CalM (P:Program) (w:World) (K:Frag) (mg:Str->Option Value) (base:Heap) (c m:Str) (k:Nat) (ps:List Str) (sp:Sp):Prop where
 ex:∃C f fd,nsIn K mainGlobals c=some (some (.ref C))/\Cls K C/\Meth K C m f/\FnOk P w K mg base CX0 k f fd ps sp/\Xj0 K fd ps []
structure MakAt (K:Frag) (mg:Str->Option Value) (c:Str) (f:Addr):Prop where
 cl:∃C,nsIn K mainGlobals c=some (some (.ref C))/\Mk K C f/\mg c=some (.ref C)
structure CalK (P:Program) (w:World) (K:Frag) (mg:Str->Option Value) (base:Heap) (c:Str) (k:Nat) (ps:List Str) (sp:Sp):Prop where
 ex:∃C f fd,nsIn K mainGlobals c=some (some (.ref C))/\Mk K C f/\mg c=some (.ref C)/\FnOk P w K mg base CX0 k f fd ps sp/\Xj0 K fd ps []
def Xo7 (K:Frag)(c m:Str)(sp:Sp)(ta:TE)(t:TA):TE:=λY H Q=>∃C,nsIn K mainGlobals c=some (some (.ref C))/\Yf3 C m sp [] E0 ta t Y H Q
def Yec (K:Frag)(c:Str)(sp:Sp)(t:TA):TE:=λY H Q=>∃C,nsIn K mainGlobals c=some (some (.ref C))/\Yj7 C sp [] E0 t Y H Q
section
variable {X:Cx}{c m:Str}{k:Nat}{ps:List Str}{sp:Sp}{o e:Expr}{es:List Expr}{ta:TE}{t:TA}{p pos apos:Pos}
theorem Xh1 (C:CalM X.prog X.w X.K X.mg X.base c m k ps sp)(hr:Room k X.A)(he:PE X o ta)(ha:PA X (e::es) t)
  (hst:starEach (e::es) X.env=(false,eval e X.env)::starEach es X.env:=by rfl) (hpl:(backTo pos (starEach es X.env)).any (·.1)=false:=by rfl)
  (ht:eval (.Call (.Attribute o m apos) (e::es) [] pos) X.env=(do
   let ov <- eval o X.env
   standAt apos.atName
   let (f,first) <- holding [ov] (getMethod ov m pl)
   callWith pos f first (backTo pos (starEach (e::es) X.env)) (backToKw pos (keywordEach [] X.env))):=by rfl):
  PE X (.Call (.Attribute o m apos) (e::es) [] pos) (Xo7 X.K c m sp ta t):=by
 intro pins s Y H Q I ⟨C',hC',h⟩
 obtain⟨C,f,fd,hC,cl,hm,F,hb⟩:=C.ex
 rw[hC]at hC'
 cases hC'
 exact Yhp he cl hm F hr hb .nil Xzq ha hst hpl ht pins s Y H Q I h
theorem Xin (C:CalM X.prog X.w X.K X.mg X.base c m k ps sp)(hr:Room k X.A)(he:PE X o ta)
  (ht:eval (.Call (.Attribute o m apos) [] [] pos) X.env=(do
   let ov <- eval o X.env
   standAt apos.atName
   let (f,first) <- holding [ov] (getMethod ov m pl)
   callWith pos f first (backTo pos (starEach [] X.env)) (backToKw pos (keywordEach [] X.env))):=by rfl):
  PE X (.Call (.Attribute o m apos) [] [] pos) (Xo7 X.K c m sp ta Xoi):=by
 intro pins s Y H Q I ⟨C',hC',h⟩
 obtain⟨C,f,fd,hC,cl,hm,F,hb⟩:=C.ex
 rw[hC]at hC'
 cases hC'
 exact Yc2 he cl hm F hr hb .nil Xzq (ht:=ht) pins s Y H Q I h
theorem Xzm (C:CalK X.prog X.w X.K X.mg X.base c k ps sp)(hr:Room (k+1) X.A)(hg:Gl X c)(ha:PA X (e::es) t)
  (hdb:(c==("__debug__":Str))=false:=by decide) (he:starEach (e::es) X.env=(false,eval e X.env)::starEach es X.env:=by rfl) (hpl:(backTo pos (starEach es X.env)).any (·.1)=false:=by rfl):
  PE X (.Call (.Name c p) (e::es) [] pos) (Yec X.K c sp t):=by
 intro pins s Y H Q I ⟨C',hC',h⟩
 obtain⟨C,f,fd,hC,M,hm,F,hb⟩:=C.ex
 rw[hC]at hC'
 cases hC'
 exact Yhq M F hr hg hm hb .nil Xzq ha hdb he hpl pins s Y H Q I h
end
section
variable {K:Frag}{c f m:Str}{ns:List Str}{i j:Nat}{ta te:TE}{E:DE}{Eo:DO}
theorem Xhd (CV:ClsV K c ns)(hf:ns[j]?=some f)(h:Xe6 K ta E): Xe6 K (Yj8 K ta f) (Ypj c ns j E):=λF0 H0 F H Y δ P Q e w q=>h F0 H0 F H Y δ _ _ e w λd v F1 H1 w1 x1 r1=>by
 split at w1
 .obtain ⟨rfl,rfl,x,hx,w1⟩:=w1
  obtain⟨a,C,dx,vs,rfl,h0,h1,hl,h2⟩:=r1
  obtain⟨C',hC',cl,na⟩:=CV.ex
  rw[h0]at hC'
  cases hC'
  obtain⟨u,hu,ru⟩:=h2.get hx
  exact⟨a,C,dx,_,u,rfl,h1,cl,na f (mem_of_getElem? hf),by rw[Xsv CV.nd hf];exact hu,q _ _ F1 H1 w1 x1 ru⟩
 .exact w1.elim
theorem ER.obj {A:Nat->List Addr}(e:ER K F0 H0 F H Y δ A)(hv:Y[i]?=some (some (.ref a)))(eA:A i=a::dx::B)
  (h0:nsIn K mainGlobals c=some (some (.ref C))) (ho:∀a',o=some a'->a=a') (h1:H' a=some (.ins C dx (ns.zip vs'))) (h2:H' dx=some (.own a)) (hl:ts'.length<=ns.length) (h3:Xa3 K F H' ts' vs' B') (nd:B'.Nodup)
  (hB:∀b∈B',b∈B∨(F b=none/\H0 b=none/\∀j,b∉A j)) (keep:∀b o,b∉A i->H b=some o->H' b=some o): Xek K F0 H0 F H' Y (δ.set i (some (.own (.ob o c ns ts')))):=by
 have hnd:=e.nod i
 rw[eA]at hnd
 obtain⟨n1,n2⟩:=nodup_cons.mp hnd
 obtain⟨n3,n4⟩:=nodup_cons.mp n2
 have inA:∀b,b∈a::dx::B'->b∈A i∨(F b=none/\H0 b=none/\∀j,b∉A j):=λb hb=>by
  rw[eA]
  rcases mem_cons.mp hb with z |z
  .exact .inl (by simp[z])
  .rcases mem_cons.mp z with z |z
   .exact .inl (by simp[z])
   .rcases hB b z with y |y
    .exact .inl (by simp[y])
    .exact .inr y
 have notB:∀b,b∈A i->b∉B->b∉B':=λb hb hn z=>by
  rcases hB b z with y |y
  .exact hn y
  .exact y.2.2 i hb
 refine e.change i hv (t':=.ob o c ns ts') (B:=a::dx::B') ⟨a,C,dx,vs',B',rfl,rfl,h0,ho,h1,h2,hl,h3⟩ ?_ ?_ ?_ keep
 .refine nodup_cons.mpr ⟨λz=>?_,nodup_cons.mpr ⟨λz=>?_,nd⟩⟩
  .rcases mem_cons.mp z with z |z
   .exact n1 (by simp[z])
   .exact notB a (by simp[eA]) (λy=>n1 (by simp[y])) z
  .exact notB dx (by simp[eA]) n3 z
 .intro b hb
  rcases inA b hb with z |z
  .exact ⟨(e.new i b z).1,(e.new i b z).2.1⟩
  .exact ⟨z.1,z.2.1⟩
 .intro j hj b hb z
  rcases inA b hb with y |y
  .exact e.dis j i b hj z y
  .exact y.2.2 j z
theorem Xyw (CV:ClsV K c ns)(hf:ns[j]?=some f)(h:Xjx K te Eo):Xc3 K (Ynl K (Xod i) te f) (Yg3 c ns i j Eo):=λF0 H0 F H Y δ De En e l w=>by
 obtain⟨A,e⟩:=e
 unfold Yg3 at w
 split at w
 .rename_i o c' ns' ts hs
  obtain⟨rfl,rfl,hj,w⟩:=w
  obtain⟨v,hv,a,C,dx,vs,B,rfl,eA,h0,ho,h1,h2,hl,h3⟩:=e.own i _ hs
  obtain⟨C',hC',cl,na⟩:=CV.ex
  rw[h0]at hC'
  cases hC'
  refine h F0 H0 F H Y δ _ _ ⟨A,e⟩ w λr u F1 H1 p x1 n=>?_
  obtain⟨C0,c1,c2,c3⟩:=n
  have e1:=e.on x1
  have hlen:=h3.length
  refine⟨_,hv,a,C,dx,_,rfl,x1.hh _ _ h1,cl,na f (mem_of_getElem? hf),?_,?_⟩
  .have:=CV.few
   rw[length_zip];lia
  rw[Xqd CV.nd hf (by lia)]
  have h31:Xa3 K F1 H1 ts vs B:=h3.frame x1.ff λb _ xs z=>x1.hh _ _ z
  obtain⟨v0,A1,B0,A2,f1,rfl,f3,f4⟩:=h31.focus (getElem?_eq_getElem hj)
  have hnd:=e.nod i
  rw[eA]at hnd
  obtain⟨n1,n2⟩:=nodup_cons.mp hnd
  obtain⟨n3,n4⟩:=nodup_cons.mp n2
  have hCA':∀j b,b∈C0->b∉A j:=λj b hb z=>by
   obtain⟨_,_,xs,q,_⟩:=e.new j b z
   rw[(c3 b hb).1]at q;cases q
  have hCA:=hCA' i
  have off:∀b,b∈A1++(B0++A2)->b≠a:=λb hb z=>n1 (by rw[<- z];exact mem_cons_of_mem _ hb)
  have sub:∀b,b∈A1++A2->b∈A1++(B0++A2):=λb hb=>by
   rcases mem_append.mp hb with z |z<;>simp[z]
  have f4':=f4 F1 (upd H1 a (.ins C dx (ns'.zip (vs.set j u)))) r u C0 (Xbj.refl _) (λb hb xs z=>Xav (off b (sub b hb)) z) (c1.frame (Xbj.refl _) λb hb xs z=>Xav (λy=>hCA b hb (by rw[eA,y];simp)) z)
  refine l.nx F1 _ Y _ (e1.obj hv eA h0 ho Xay (Xav (λz=>n1 (by rw[<- z];simp)) (x1.hh _ _ h2)) (by rw[length_set];exact hl) f4' (Yez n4 c2 λb hb=>.inr λz=>hCA b hb (by rw[eA];simp only[mem_cons];exact .inr (.inr z))) (λb hb=>?_) λb o' hb z=>Xav (λy=>hb (by rw[eA,y];simp)) z) p
  rcases mem_append.mp hb with z |z
  .exact .inl (by simp[z])
  .rcases mem_append.mp z with z |z
   .exact .inr ⟨(c3 b z).2,e.ext.hh.free (c3 b z).1,λj=>hCA' j b z⟩
   .exact .inl (by simp[z])
 .exact w.elim
theorem Xnc (CV:ClsV K c ns)(hf:ns[j]?=some f)(h:Xjx K te Eo): Xc3 K (Ynl K (Xod i) te f) (Yg5 c ns i j Eo):=λF0 H0 F H Y δ De En e l w=>by
 obtain⟨A,e⟩:=e
 unfold Yg5 at w
 split at w
 .rename_i o c' ns' ts hs
  obtain⟨rfl,rfl,hj,w⟩:=w
  obtain⟨v,hv,a,C,dx,vs,B,rfl,eA,h0,ho,h1,h2,hl,h3⟩:=e.own i _ hs
  obtain⟨C',hC',cl,na⟩:=CV.ex
  rw[h0]at hC'
  cases hC'
  refine h F0 H0 F H Y δ _ _ ⟨A,e⟩ w λr u F1 H1 p x1 n=>?_
  obtain⟨C0,c1,c2,c3⟩:=n
  have e1:=e.on x1
  have hlen:=h3.length
  refine⟨_,hv,a,C,dx,_,rfl,x1.hh _ _ h1,cl,na f (mem_of_getElem? hf),?_,?_⟩
  .have:=CV.few
   rw[length_zip];lia
  have hf':=hf
  rw[hj,hlen]at hf'
  rw[Xvk CV.nd hf']
  have h31:Xa3 K F1 H1 ts vs B:=h3.frame x1.ff λb _ xs z=>x1.hh _ _ z
  have hnd:=e.nod i
  rw[eA]at hnd
  obtain⟨n1,n2⟩:=nodup_cons.mp hnd
  obtain⟨n3,n4⟩:=nodup_cons.mp n2
  have hCA':∀j b,b∈C0->b∉A j:=λj b hb z=>by
   obtain⟨_,_,xs,q,_⟩:=e.new j b z
   rw[(c3 b hb).1]at q;cases q
  have hCA:=hCA' i
  have off:∀b,b∈B->b≠a:=λb hb z=>n1 (by rw[<- z];exact mem_cons_of_mem _ hb)
  have hlt:=(List.getElem?_eq_some_iff.mp hf').1
  have f4':Xa3 K F1 (upd H1 a (.ins C dx (ns'.zip (vs++[u])))) (ts++[r]) (vs++[u]) (B++C0):=Xa3.append (h31.frame (Xbj.refl _) λb hb xs z=>Xav (off b hb) z) (Xa3.one (c1.frame (Xbj.refl _) λb hb xs z=>Xav (λy=>hCA b hb (by rw[eA,y];simp)) z))
  refine l.nx F1 _ Y _ (e1.obj hv eA h0 ho Xay (Xav (λz=>n1 (by rw[<- z];simp)) (x1.hh _ _ h2)) (by rw[length_append,length_singleton];lia) f4' (nodup_append.mpr ⟨n4,c2,λx hx y hy z=>hCA y hy (by rw[eA,<- z];simp[hx])⟩) (λb hb=>?_) λb o' hb z=>Xav (λy=>hb (by rw[eA,y];simp)) z) p
  rcases mem_append.mp hb with z |z
  .exact .inl z
  .exact .inr ⟨(c3 b z).2,e.ext.hh.free (c3 b z).1,λj=>hCA' j b z⟩
 .exact w.elim
theorem Xyy {g:Int->Int->Int}{rd:V->V->Hp->VK->Prop}(CV:ClsV K c ns)(hf:ns[j]?=some f)(hrd:∀x y H Q,Q (.int (g x y)) H->rd (.int x) (.int y) H Q)(h:Xe6 K te E): Xc3 K (Xy3 K (Xod i) te rd f) (Yg6 c ns i j g E):=λF0 H0 F H Y δ De En e l w=>by
 obtain⟨A,e⟩:=e
 unfold Yg6 at w
 split at w
 .rename_i o c' ns' ts hs
  obtain⟨rfl,rfl,w⟩:=w
  obtain⟨x,hx,w⟩:∃x,ts[j]?=some (.fz (.int x))/\E δ λd=>match d with
   | .int y=>De.nx (δ.set i (some (.own (.ob o c' ns' (ts.set j (.fz (.int (g x y))))))))
   |_=>False:=by
   split at w
   .exact ⟨_,by assumption,w⟩
   .exact w.elim
  obtain⟨v,hv,a,C,dx,vs,B,rfl,eA,h0,ho,h1,h2,hl,h3⟩:=e.own i _ hs
  obtain⟨C',hC',cl,na⟩:=CV.ex
  rw[h0]at hC'
  cases hC'
  obtain⟨v0,A1,B0,A2,f1,eB,⟨f3,f3'⟩,f4⟩:=h3.focus hx
  subst f3
  cases (show v0=V.int x from f3')
  refine⟨_,hv,a,C,dx,_,_,rfl,h1,cl,na f (mem_of_getElem? hf),(by rw[Xsv CV.nd hf];exact f1),?_⟩
  refine h F0 H0 F H Y δ _ _ ⟨A,e⟩ w λd u F1 H1 p x1 ru=>?_
  split at p
  .rename_i y
   cases (show u=V.int y from ru)
   have e1:=e.on x1
   refine hrd _ _ _ _ ⟨dx,_,x1.hh _ _ h1,?_,?_⟩
   .have:=CV.few
    rw[length_zip];lia
   rw[Xqd CV.nd hf (List.getElem?_eq_some_iff.mp f1).1]
   have hnd:=e.nod i
   rw[eA]at hnd
   obtain⟨n1,n2⟩:=nodup_cons.mp hnd
   obtain⟨n3,n4⟩:=nodup_cons.mp n2
   subst eB
   have f4':=f4 F1 (upd H1 a (.ins C dx (ns'.zip (vs.set j (.int (g x y)))))) (.fz (.int (g x y))) (.int (g x y)) [] x1.ff (λb hb xs z=>Xav (λq=>n1 (by rw[<- q];exact mem_cons_of_mem _ hb)) (x1.hh _ _ z)) ⟨rfl,rfl⟩
   exact l.nx F1 _ Y _ (e1.obj hv eA h0 ho Xay (Xav (λz=>n1 (by rw[<- z];simp)) (x1.hh _ _ h2)) (by rw[length_set];exact hl) f4' n4 (λb hb=>.inl hb) λb o' hb z=>Xav (λy=>hb (by rw[eA,y];simp)) z) p
  .exact p.elim
 .exact w.elim
theorem Xk0 (CV:ClsV K c ns)(hf:ns[j]?=some f)(h:Xjx K te Eo):Xc3 K (Xpx (tBM K "list" rAppend (Yj8 K (Xod i) f) (Xfr te Xoi))) (Yg7 c ns i j Eo):=λF0 H0 F H Y δ De En e l w=>by
 obtain⟨A,e⟩:=e
 unfold Yg7 at w
 split at w
 .rename_i o c' ns' ts hs
  obtain⟨rfl,rfl,w⟩:=w
  obtain⟨us,hx,hus,w⟩:∃us,ts[j]?=some (.nl us)/\us.length<1000000/\Eo δ λr=>De.nx (δ.set i (some (.own (.ob o c' ns' (ts.set j (.nl (us++[r]))))))):=by
   split at w
   .exact ⟨_,by assumption,w⟩
   .exact w.elim
  obtain⟨v,hv,a,C,dx,vs,B,rfl,eA,h0,ho,h1,h2,hl,h3⟩:=e.own i _ hs
  obtain⟨C',hC',cl,na⟩:=CV.ex
  rw[h0]at hC'
  cases hC'
  obtain⟨v0,A1,B0,A2,f1,rfl,f3,f4⟩:=h3.focus hx
  obtain⟨b0,ws,B1,rfl,rfl,hc,hws⟩:=f3
  refine⟨_,hv,a,C,dx,_,.ref b0,rfl,h1,cl,na f (mem_of_getElem? hf),(by rw[Xsv CV.nd hf];exact f1),.inl ⟨rfl,_,SqL.of hc⟩,?_⟩
  refine h F0 H0 F H Y δ _ _ ⟨A,e⟩ w λr u F1 H1 p x1 n=>?_
  obtain⟨C0,c1,c2,c3⟩:=n
  have e1:=e.on x1
  have hwl:=hws.length
  refine⟨b0,ws,u,rfl,rfl,x1.hh _ _ hc,Xwm (by lia),?_⟩
  have hnd:=e.nod i
  rw[eA]at hnd
  obtain⟨n1,n2⟩:=nodup_cons.mp hnd
  obtain⟨n3,n4⟩:=nodup_cons.mp n2
  have hCA':∀j b,b∈C0->b∉A j:=λj b hb z=>by
   obtain⟨_,_,xs,q,_⟩:=e.new j b z
   rw[(c3 b hb).1]at q;cases q
  have hbA:b0∈A i:=by rw[eA];simp
  obtain⟨m1,m2,m3⟩:=nodup_append.mp n4
  obtain⟨q1,q2,q3⟩:=nodup_append.mp m2
  obtain⟨s1,s2⟩:=nodup_cons.mp q1
  have off:∀b∈A1++A2,b≠b0:=λb hb z=>by
   subst z
   rcases mem_append.mp hb with y |y
   .exact m3 b y b (by simp) rfl
   .exact q3 b (by simp) b y rfl
  have hab:a≠b0:=λz=>n1 (by rw[z];simp)
  have hdb:dx≠b0:=λz=>n3 (by rw[z];simp)
  have f4':=f4 F1 (upd H1 b0 (.lst (ws++[u]))) (.nl (us++[r])) (.ref b0) (b0::(B1++C0)) x1.ff (λb hb xs z=>Xav (off b hb) (x1.hh _ _ z))
   ⟨b0,ws++[u],B1++C0,rfl,rfl,Xay,Xa3.append (hws.frame x1.ff λb hb xs z=>Xav (λy=>s1 (by rw[<- y];exact hb)) (x1.hh _ _ z)) (Xa3.one (c1.frame (Xbj.refl _) λb hb xs z=>Xav (λy=>hCA' i b hb (by rw[y];exact hbA)) z))⟩
  rw[Xf6 f1]at f4'
  refine l.nx F1 _ Y _ (e1.obj hv eA h0 ho (Xav hab (x1.hh _ _ h1)) (Xav hdb (x1.hh _ _ h2)) (by rw[length_set];exact hl) f4' (Yez n4 ?_ λb hb=>?_) (λb hb=>?_) λb o' hb z=>Xav (λy=>hb (by rw[y];exact hbA)) z) p
  .refine nodup_cons.mpr ⟨λz=>?_,nodup_append.mpr ⟨s2,c2,λx hx y hy z=>hCA' i y hy (by rw[eA,<- z];simp[hx])⟩⟩
   rcases mem_append.mp z with y |y
   .exact s1 y
   .exact hCA' i b0 y hbA
  .rcases mem_cons.mp hb with y |y
   .exact .inl (by simp[y])
   .rcases mem_append.mp y with y |y
    .exact .inl (by simp[y])
    .exact .inr λz=>hCA' i b y (by rw[eA];simp only[mem_cons];exact .inr (.inr z))
  .simp only[mem_append,mem_cons]at hb
   rcases hb with z | (z |z |z) |z
   .exact .inl (by simp[z])
   .exact .inl (by simp[z])
   .exact .inl (by simp[z])
   .exact .inr ⟨(c3 b z).2,e.ext.hh.free (c3 b z).1,λj=>hCA' j b z⟩
   .exact .inl (by simp[z])
 .exact w.elim
theorem ER.fpop {A:Nat->List Addr}(e:ER K F0 H0 F H Y δ A)(CV:ClsV K c ns)(hf:ns[j]?=some f)(hs:δ[i]?=some (some (.own (.ob o c ns ts))))(hx:ts[j]?=some (.nl (us++[.fz d]))):
  ∃a b0 ws y C dx fs,Y[i]?=some (some (.ref a))/\H a=some (.ins C dx fs)/\nsIn K mainGlobals c=some (some (.ref C))/\Cls K C/\Xkv K C f/\fs.lookup f=some (.ref b0)/\H b0=some (.lst ws)/\ws[ws.length-1]?=some y/\Rep K F d y/\(upd H b0 (.lst ws.dropLast)) a=some (.ins C dx fs)/\
   Xek K F0 H0 F (upd H b0 (.lst ws.dropLast)) Y (δ.set i (some (.own (.ob o c ns (ts.set j (.nl us)))))):=by
 obtain⟨v,hv,a,C,dx,vs,B,rfl,eA,h0,ho,h1,h2,hl,h3⟩:=e.own i _ hs
 obtain⟨C',hC',cl,na⟩:=CV.ex
 rw[h0]at hC'
 cases hC'
 obtain⟨v0,A1,B0,A2,f1,rfl,f3,f4⟩:=h3.focus hx
 obtain⟨b0,ws,B1,rfl,rfl,hc,hws⟩:=f3
 obtain⟨ws1,y,rfl,B2,hw1,hwy,eB⟩:∃ws1 y,ws=ws1++[y]/\∃B2,Xa3 K F H us ws1 B2/\Rep K F d y/\B1=B2:=by
  clear f4 h3 hx eA hc f1
  induction us generalizing ws B1 with
  |nil=>
   obtain⟨v,r,B,C,rfl,rfl,g1,g2,g3⟩:=hws
   subst g2 g3
   exact⟨[],v,rfl,[],⟨rfl,rfl⟩,g1.2,by rw[g1.1];rfl⟩
  |cons t us ih=>
   obtain⟨v,r,B,C,rfl,rfl,g1,g2⟩:=hws
   obtain⟨ws1,y,rfl,B2,k1,k2,rfl⟩:=ih _ _ g2
   exact⟨v::ws1,y,rfl,B++C,⟨v,ws1,B,C,rfl,rfl,g1,k1⟩,k2,rfl⟩
 subst eB
 have hnd:=e.nod i
 rw[eA]at hnd
 obtain⟨n1,n2⟩:=nodup_cons.mp hnd
 obtain⟨n3,n4⟩:=nodup_cons.mp n2
 have hbA:b0∈A i:=by rw[eA];simp
 obtain⟨m1,m2,m3⟩:=nodup_append.mp n4
 obtain⟨q1,q2,q3⟩:=nodup_append.mp m2
 obtain⟨s1,s2⟩:=nodup_cons.mp q1
 have off:∀b∈A1++A2,b≠b0:=λb hb z=>by
  subst z
  rcases mem_append.mp hb with y |y
  .exact m3 b y b (by simp) rfl
  .exact q3 b (by simp) b y rfl
 have hab:a≠b0:=λz=>n1 (by rw[z];simp)
 have hdb:dx≠b0:=λz=>n3 (by rw[z];simp)
 have edl:(ws1++[y]).dropLast=ws1:=by simp
 have f4':=f4 F (upd H b0 (.lst (ws1++[y]).dropLast)) (.nl us) (.ref b0) (b0::B1) (Xbj.refl _) (λb hb xs z=>Xav (off b hb) z) ⟨b0,(ws1++[y]).dropLast,B1,rfl,rfl,Xay,by
  rw[edl]
  exact hw1.frame (Xbj.refl _) λb hb xs z=>Xav (λy=>s1 (by rw[<- y];exact hb)) z⟩
 rw[Xf6 f1]at f4'
 refine⟨a,b0,ws1++[y],y,C,dx,_,hv,h1,h0,cl,na f (mem_of_getElem? hf),(by rw[Xsv CV.nd hf];exact f1),hc,by simp,hwy,Xav hab h1,?_⟩
 exact e.obj hv eA h0 ho (Xav hab h1) (Xav hdb h2) (by rw[length_set];exact hl) f4' n4 (λb hb=>.inl hb) λb o' hb z=>Xav (λy=>hb (by rw[y];exact hbA)) z
theorem Ygo (CV:ClsV K c ns)(hf:ns[j]?=some f): Xc3 K (Xyg (Ym3 K "list" rPop (Yj8 K (Xod i) f)) (Xo2 k)) (Yg4 c ns i j k):=λF0 H0 F H Y δ De En e l w=>by
 obtain⟨A,e⟩:=e
 unfold Yg4 at w
 split at w
 .rename_i o c' ns' ts hs
  obtain⟨rfl,rfl,us,d,hx,w⟩:=w
  obtain⟨a,b0,ws,y,C,dx,fs,hv,h1,h0,cl,na,hl,hc,hy,ry,_,e'⟩:=e.fpop CV hf hs hx
  refine⟨_,hv,a,C,dx,fs,.ref b0,rfl,h1,cl,na,hl,.inl ⟨rfl,_,SqL.of hc⟩,b0,ws,y,rfl,rfl,hc,hy,?_⟩
  exact l.nx F _ _ _ (e'.put (Ext.refl e'.ext.fh) k (.fz ry)) w
 .exact w.elim
def spM (K:Frag)(n:Nat)(c:Str)(ns:List Str)(sp:DMo):Sp:=spL n λvs H Q=>∃F a C dx ts vs0 B Xis ds P,vs=V.ref a::Xis/\nsIn K mainGlobals c=some (some (.ref C))/\Xbj F H/\H a=some (.ins C dx (ns.zip vs0))/\H dx=some (.own a)/\ts.length<=ns.length/\Xa3 K F H ts vs0 B/\
 (a::dx::B).Nodup/\(∀b∈a::dx::B,F b=none)/\Xb1 K F ds Xis/\sp ts ds P/\
 ∀ts' F' H' dx' vs' B',P ts'->Xbj F F'->Xbj F' H'->(∀b o,b∉a::dx::B->H b=some o->H' b=some o)->(∀b o,F b=none->H b=some o->imm o=false->b∉a::dx::B->F' b=none)->H' a=some (.ins C dx' (ns.zip vs'))->H' dx'=some (.own a)->ts'.length<=ns.length->Xa3 K F' H' ts' vs' B'->
  (a::dx'::B').Nodup->(∀b∈a::dx'::B',F' b=none/\(b∈a::dx::B∨H b=none))->Q .non H'
theorem Yee (e:Xek K F0 H0 F H Y δ)(hs:δ[i]?=some (some (.own (.ob o c ns ts))))(hσ:Y[i]?=some (some (.ref p)))(l:Lk K F0 H0 De En)(hn:ds.length+1=n)
  (r:Xb1 K F ds us) (hsp:sp ts ds λts'=>De.nx (δ.set i (some (.own (.ob o c ns ts'))))): spM K n c ns sp (.ref p::us) H (λ_ H2=>En.nx Y H2) E0:=by
 obtain⟨A,e⟩:=e
 obtain⟨v,hv,a,C,dx,vs,B,rfl,eA,h0,ho,h1,h2,hl,h3⟩:=e.own i _ hs
 rw[hσ]at hv
 cases hv
 have hnd:=e.nod i
 rw[eA]at hnd
 have hlt:i<δ.length:=(List.getElem?_eq_some_iff.mp hs).1
 refine⟨by rw[length_cons,<- r.length];exact hn,F,p,C,dx,ts,vs,B,us,ds,_,rfl,h0,e.ext.fh,h1,h2,hl,h3,hnd,λb hb=>(e.new i b (by rw[eA];exact hb)).1,r,hsp,?_⟩
 intro ts' F' H' dx' vs' B' pt sF sH keep nofz hp' hd' hl' hB' nd' nw'
 refine l.nx F' H' Y _ ⟨λj=>if j=i then p::dx'::B' else A j,?_⟩ pt
 refine⟨by simp[e.len],⟨e.ext.ff.trans sF,λb o h=>?_,sH,λb o h1 h2 h3=>?_⟩,λj t hj=>?_,λj d hj=>?_,λj=>?_,λj k b hjk h1 h2=>?_,λj b hb=>?_⟩
 .exact keep b o (λz=>by rw[(e.new i b (by rw[eA];exact z)).2.1]at h;cases h) (e.ext.hh _ _ h)
 .exact nofz b o (e.ext.no b o h1 h2 h3) (e.ext.hh _ _ h2) h3 (λz=>by rw[(e.new i b (by rw[eA];exact z)).2.1]at h2;cases h2)
 .by_cases z:j=i
  .subst z
   rw[if_pos rfl]
   rw[getElem?_set_self hlt]at hj
   cases hj
   exact⟨_,hσ,p,C,dx',vs',B',rfl,rfl,h0,ho,hp',hd',hl',hB'⟩
  .rw [if_neg z]
   rw[getElem?_set_ne (Ne.symm z)]at hj
   obtain⟨u,h1,h2⟩:=e.own j t hj
   exact⟨u,h1,h2.frame sF λb hb xs q=>keep b _ (λy=>e.dis j i b z hb (by rw[eA];exact y)) q⟩
 .by_cases z:j=i
  .subst z
   rw[getElem?_set_self hlt]at hj
   cases hj
  .rw [getElem?_set_ne (Ne.symm z)]at hj
   exact e.bw j d hj
 .split
  .exact nd'
  .exact e.nod j
 .have key:∀k,k≠i->b∈p::dx'::B'->b∈A k->False:=λk hk z1 z2=>by
   rcases (nw' b z1).2 with y |y
   .exact e.dis k i b hk z2 (by rw[eA];exact y)
   .obtain ⟨_,_,xs,q,_⟩:=e.new k b z2
    rw[y]at q;cases q
  split at h1
  .split at h2
   .lia
   .rename_i z1 z2
    exact key k z2 h1 h2
  .split at h2
   .rename_i z1 z2
    exact key j z1 h2 h1
   .exact e.dis j k b hjk h1 h2
 .split at hb
  .have hh:H0 b=none:=by
    rcases (nw' b hb).2 with y |y
    .exact (e.new i b (by rw[eA];exact y)).2.1
    .exact e.ext.hh.free y
   refine⟨(nw' b hb).1,hh,?_⟩
   rcases mem_cons.mp hb with y |y
   .rw [y];exact⟨_,hp',rfl⟩
   .rcases mem_cons.mp y with y |y
    .rw [y];exact⟨_,hd',rfl⟩
    .exact hB'.isl b y
  .rename_i z
   obtain⟨h1,h2,xs,h3,himm⟩:=e.new j b hb
   have hni:b∉p::dx::B:=λy=>e.dis j i b z hb (by rw[eA];exact y)
   exact⟨nofz b _ h1 h3 himm hni,h2,xs,keep b _ hni h3,himm⟩
theorem Xgn (CV:ClsV K c ns)(hm:m∉ns)(ha:Xjy K a As): Xc3 K (Xpx (Xo7 K c m (spM K n c ns sp) (Xod i) a)) (Ygu c ns i n sp As):=λF0 H0 F H Y δ De En e l w=>by
 unfold Ygu at w
 split at w
 .rename_i o c' ns' ts hs
  obtain⟨rfl,rfl,w⟩:=w
  obtain⟨A,e⟩:=e
  obtain⟨v,hv,p,C,dx,vs,B,rfl,eA,h0,ho,h1,h2,hl,h3⟩:=e.own i _ hs
  refine⟨C,h0,_,hv,p,dx,_,rfl,h1,Xgv hm,?_⟩
  refine ha F0 H0 F H Y δ _ _ ⟨A,e⟩ w λds us F1 H1 w1 x1 r1=>?_
  rw[append_nil]
  exact Yee ⟨A,e.on x1⟩ hs hv l w1.1 r1 w1.2
 .exact w.elim
theorem Xww (CV:ClsV K c ns)(hf:ns[j]?=some f)(hm:m∉ns): Xc3 K (Xpx (Xo7 K c m (spM K 2 c ns sp) (Xod i) (Xfr (Ym3 K "list" rPop (Yj8 K (Xod i) f)) Xoi))) (Xp7 c ns i j sp):=λF0 H0 F H Y δ De En e l w=>by
 unfold Xp7 at w
 split at w
 .rename_i o c' ns' ts hs
  obtain⟨rfl,rfl,us,d,hx,w⟩:=w
  obtain⟨A,e⟩:=e
  obtain⟨v,hv',p,C',dx',vs,B,rfl,eA,h0',ho,h1',h2',hl',h3⟩:=e.own i _ hs
  obtain⟨a,b0,ws,y,C,dx,fs,hv,h1,h0,cl,na,hl,hc,hy,ry,h1b,e'⟩:=e.fpop CV hf hs hx
  rw[hv']at hv
  cases hv
  refine⟨C',h0',_,hv',p,dx',_,rfl,h1',Xgv hm,?_⟩
  refine⟨_,hv',p,C,dx,fs,.ref b0,rfl,h1,cl,na,hl,.inl ⟨rfl,_,SqL.of hc⟩,b0,ws,y,rfl,rfl,hc,hy,?_⟩
  have hlt:i<δ.length:=(List.getElem?_eq_some_iff.mp hs).1
  exact Yee (δ:=δ.set i (some (.own (.ob o c' ns' (ts.set j (.nl us)))))) e' (getElem?_set_self hlt) hv' l (ds:=[d]) rfl (show Xb1 K F [d] [y] from⟨y,[],rfl,ry,rfl⟩) (by simpa only[List.set_set] using w)
 .exact w.elim
theorem Xmi (CV:ClsV K c ns)(hm:m∉ns)(h:Xe6 K te E)(ha:Xoa K a As): Xjx K (Xo7 K c m (spV K n sp) te a) (Yfk c ns n sp E As):=λF0 H0 F H Y δ P Q e w q=>by
 have key:(∃C,nsIn K mainGlobals c=some (some (.ref C)))->Xo7 K c m (spV K n sp) te a Y H Q:=λ⟨C,hC⟩=>by
  refine⟨C,hC,?_⟩
  refine h F0 H0 F H Y δ _ _ e w λd v F1 H1 w1 x1 r1=>?_
  split at w1
  .rename_i c' ns' fs
   obtain⟨rfl,rfl,w1⟩:=w1
   have r1':=r1
   obtain⟨p,C',dx,vs,rfl,h0,h1,hl,h2⟩:=r1
   rw[hC]at h0
   cases h0
   refine⟨p,dx,_,rfl,h1,Xgv hm,?_⟩
   refine ha F0 H0 F1 H1 Y δ _ _ (e.on x1) w1 λds us F2 H2 w2 x2 r2=>?_
   rw[append_nil]
   have x12:=x1.trans x2
   refine⟨by rw[length_cons,<- r2.length];exact w2.1,H2,.obj c' ns' fs::ds,_,Xbj.refl _,⟨.ref p,us,rfl,r1'.mono x2.hh,r2⟩,w2.2,λr v F' H' p x' r'=>?_⟩
   have s1:Xbj F2 F':=x2.fh.trans x'.ff
   have x3:=Xff s1
   obtain⟨A,a1,a2,a3⟩:=r'
   refine q r v (Xun F2 F') H' p.2 (x12.trans ⟨x3.ff,x'.hh,x3.fh.trans x'.fh,λb o z1 z2 z3=>?_⟩) ⟨A,a1.lf s1 p.1,a2,λb hb=>⟨x12.hh.free (a3 b hb).1,x3.fh.free (a3 b hb).2⟩⟩
   exact x3.no b o z1 (x'.ff _ _ z2) z3
  .exact w1.elim
 exact key ⟨_,CV.ex.choose_spec.1⟩
theorem Xy1 (CV:ClsV K c ns)(ha:Xjy K a As): Xjx K (Yec K c (spM K n c ns sp) a) (Ymn c ns n sp As):=λF0 H0 F H Y δ P Q e w q=>by
 obtain⟨C,hC,_⟩:=CV.ex
 refine⟨C,hC,ha F0 H0 F H Y δ _ _ e w λds us F1 H1 w1 x1 r1=>λx dx hx hd hne=>?_⟩
 rw[append_nil]
 have s0:Xbj H1 (upd (upd H1 dx (.own x)) x (.ins C dx [])):=λb o z=>Xav (λy=>by rw[y,hx]at z;cases z) (Xav (λy=>by rw[y,hd]at z;cases z) z)
 refine⟨by rw[length_cons,<- r1.length];exact w1.1,F1,x,C,dx,[],[],[],us,ds,_,rfl,hC,x1.fh.trans s0,(by rw[List.zip_nil_right];exact Xay),Xav hne Xay,zero_le _,⟨rfl,rfl⟩,?_,λb hb=>?_,r1,w1.2,?_⟩
 .simp only[nodup_cons,mem_cons,not_mem_nil,or_false,not_false_eq_true,nodup_nil,and_true]
  exact λz=>hne z.symm
 .rcases mem_cons.mp hb with z |z
  .rw [z];exact x1.fh.free hx
  .rw [mem_singleton.mp z];exact x1.fh.free hd
 intro ts' F' H' dx' vs' B' pt sF sH keep nofz hp' hd' hl' hB' nd' nw'
 have s1:∀b o,H1 b=some o->b∉x::dx::([]:List Addr):=λb o z y=>by
  rcases mem_cons.mp y with y |y
  .rw [y,hx]at z;cases z
  .rw [mem_singleton.mp y,hd]at z;cases z
 refine⟨rfl,q _ _ F' H' pt (x1.trans ⟨sF,λb o z=>keep b o (s1 b o z) (s0 _ _ z),sH,λb o z1 z2 z3=>nofz b o z1 (s0 _ _ z2) z3 (s1 b o z2)⟩) ⟨x::dx'::B',⟨x,C,dx',vs',B',rfl,rfl,hC,(λ_ z=>by cases z),hp',hd',hl',hB'⟩,nd',λb hb=>⟨?_,(nw' b hb).1⟩⟩⟩
 rcases (nw' b hb).2 with y |y
 .rcases mem_cons.mp y with y |y
  .rw [y];exact x1.hh.free hx
  .rw [mem_singleton.mp y];exact x1.hh.free hd
 .exact x1.hh.free (s0.free y)
end
section
variable {P:Program}{w:World}{K:Frag}{mg:Str->Option Value}{base:Heap}{c m q:Str}{ns:List Str}{st:Stmt}{f:Addr}{fd:FuncData}{N ps:List Str}{k n:Nat}
theorem Yex (Fn:Fun K m q st f fd)(S:FnScope N ps (Xae st))(hn:n=ps.length)
  (hbody:∀(cdv:Value) (A:Around) (outer:List Env) (s:Shared) (H:Hp) (E:XK),Room k (A.deeper (envOfC q (Xae st) s.heap.objs.size f cdv))->
   ∃t T,PSs (Xjs CX0 P w K mg base N q (Xae st) f cdv A outer s H E).nox (Xbi st) t/\Xc3 K t T/\∀(a:Addr) ts ds Pr,sp ts ds Pr->T {nx:=λδ=>∃ts',δ[0]?=some (some (.own (.ob (some a) c ns ts')))/\Pr ts',rt:=λ_=>False} (Xj2 N c ns a ts ds)):
  FnOk P w K mg base CX0 (k+1) f fd ps (spM K n c ns sp):=
 Fn.ok S (λvs H Q E h=>by rw[<- hn];exact h.1) λcdv A outer s H vs Q E hr h=>by
  obtain⟨_,F,a,C,dx,ts,vs0,B,Xis,ds,Pr,rfl,hC,hs,ha,hd,hlen,hB,hnd,hnf,hr',hsp,hq⟩:=h
  obtain⟨t,T,h1,h2,h3⟩:=hbody cdv A outer s H E hr
  have hl:=hr'.length
  have er : ER K F (λb=>if b∈a::dx::B then none else H b) F H (Xd3 N (V.ref a::Xis)) (Xj2 N c ns a ts ds) (λj=>if j=0 then a::dx::B else []):=by
   refine⟨by simp[Xd3,Xj2,hl],⟨Xbj.refl _,λb o z=>?_,hs,λ_ _ z _ _=>z⟩,λi t hi=>?_,λi d hi=>?_,λj=>?_,λj k b hjk y1 y2=>?_,λj b hb=>?_⟩
   .split at z
    .cases z
    .exact z
   .unfold Xj2 at hi
    cases i with
    |zero=>
     simp at hi
     subst hi
     exact⟨.ref a,rfl,a,C,dx,vs0,B,rfl,rfl,hC,(λ_ z=>Option.some.inj z),ha,hd,hlen,hB⟩
    |succ i=>
     rw[getElem?_cons_succ]at hi
     by_cases z:i<ds.length
     .rw [getElem?_append_left (by simpa using z),getElem?_map,getElem?_eq_getElem z]at hi
      simp at hi
      subst hi
      obtain⟨v,g1,g2⟩:=hr'.get (getElem?_eq_getElem z)
      refine⟨v,?_,rfl,g2⟩
      unfold Xd3
      rw[map_cons,cons_append,getElem?_cons_succ,getElem?_append_left (by simp;lia),getElem?_map,g1]
      rfl
     .rw [getElem?_append_right (by simpa using z)]at hi
      have:=mem_of_getElem? hi
      rw[mem_replicate]at this
      cases this.2
   .unfold Xj2 at hi
    cases i with
    |zero=>simp at hi
    |succ i=>
     rw[getElem?_cons_succ]at hi
     by_cases z:i<ds.length
     .rw [getElem?_append_left (by simpa using z),getElem?_map]at hi
      simp at hi
     .rw [getElem?_append_right (by simpa using z)]at hi
      have:=mem_of_getElem? hi
      rw[mem_replicate]at this
      cases this.2
   .split
    .exact hnd
    .exact nodup_nil
   .split at y1
    .split at y2
     .lia
     .cases y2
    .cases y1
   .split at hb
    .refine ⟨hnf b hb,if_pos hb,?_⟩
     rcases mem_cons.mp hb with y |y
     .rw [y];exact⟨_,ha,rfl⟩
     .rcases mem_cons.mp y with y |y
      .rw [y];exact⟨_,hd,rfl⟩
      .exact hB.isl b y
    .cases hb
  refine⟨t,h1,h2 F _ F H (Xd3 N (V.ref a::Xis)) (Xj2 N c ns a ts ds) {nx:=λδ=>∃ts',δ[0]?=some (some (.own (.ob (some a) c ns ts')))/\Pr ts',rt:=λ_=>False} _ ⟨_,er⟩ ⟨λF' H' Y δ e p=>?_,λ_ _ _ _ _ z=>z.elim,λ_ _ _ _ _ z=>z.elim,λ_ _ _ _ _ _ z=>z.elim⟩ (h3 a ts ds Pr hsp)⟩
  obtain⟨A',e⟩:=e
  obtain⟨ts',h0,hp⟩:=p
  obtain⟨v,hv,a',C',dx',vs',B',rfl,eA,g0,go,g1,g2,g3,g4⟩:=e.own 0 _ h0
  obtain rfl:=go a rfl
  rw[hC]at g0
  cases g0
  have hn':=e.nod 0
  rw[eA]at hn'
  refine hq ts' F' H' dx' vs' B' hp e.ext.ff e.ext.fh (λb o y z=>?_) (λb o y1 y2 y3 y4=>?_) g1 g2 g3 g4 hn' (λb hb=>?_)
  .exact e.ext.hh b o (by rw[if_neg y];exact z)
  .exact e.ext.no b o y1 (by rw[if_neg y4];exact y2) y3
  .obtain ⟨z1,z2,_⟩:=e.new 0 b (by rw[eA];exact hb)
   refine⟨z1,?_⟩
   by_cases q:b∈a'::dx::B
   .exact .inl q
   .rw [if_neg q]at z2;exact .inr z2
theorem CalM.of (Df:MetAt K c m q st f fd)(S:FnScope N ps (Xae st))
  (hb:∀(kV doc pm:Value) (an:Option Addr) (cdv ct:Value) (us:List Value),us.length=ps.length->bindArgs (fnOf m q (Xb5 st) (Xbi st) (Xae st) .none kV doc pm an cdv ct) ⟨us,[]⟩=pure (ps.zip us)) (hn:n=ps.length)
  (hbody:∀(cdv:Value) (A:Around) (outer:List Env) (s:Shared) (H:Hp) (E:XK),Room k (A.deeper (envOfC q (Xae st) s.heap.objs.size f cdv))->
   ∃t T,PSs (Xjs CX0 P w K mg base N q (Xae st) f cdv A outer s H E).nox (Xbi st) t/\Xc3 K t T/\∀(a:Addr) ts ds Pr,sp ts ds Pr->T {nx:=λδ=>∃ts',δ[0]?=some (some (.own (.ob (some a) c ns ts')))/\Pr ts',rt:=λ_=>False} (Xj2 N c ns a ts ds)):
  CalM P w K mg base c m (k+1) ps (spM K n c ns sp):=by
 obtain⟨C,hC,cl,hm⟩:=Df.cl
 exact⟨C,f,fd,hC,cl,hm,Yex Df.fn S hn hbody,Df.fn.binds hb⟩
theorem CalK.of (Df:Fun K m q st f fd)(Mf:MakAt K mg c f)(S:FnScope N ps (Xae st))
  (hb:∀(kV doc pm:Value) (an:Option Addr) (cdv ct:Value) (us:List Value),us.length=ps.length->bindArgs (fnOf m q (Xb5 st) (Xbi st) (Xae st) .none kV doc pm an cdv ct) ⟨us,[]⟩=pure (ps.zip us)) (hn:n=ps.length)
  (hbody:∀(cdv:Value) (A:Around) (outer:List Env) (s:Shared) (H:Hp) (E:XK),Room k (A.deeper (envOfC q (Xae st) s.heap.objs.size f cdv))->
   ∃t T,PSs (Xjs CX0 P w K mg base N q (Xae st) f cdv A outer s H E).nox (Xbi st) t/\Xc3 K t T/\∀(a:Addr) ts ds Pr,sp ts ds Pr->T {nx:=λδ=>∃ts',δ[0]?=some (some (.own (.ob (some a) c ns ts')))/\Pr ts',rt:=λ_=>False} (Xj2 N c ns a ts ds)):
  CalK P w K mg base c (k+1) ps (spM K n c ns sp):=by
 obtain⟨C,hC,M,hm⟩:=Mf.cl
 exact⟨C,f,fd,hC,M,hm,Yex Df S hn hbody,Df.binds hb⟩
theorem CalP.of (Df:MetAt K c m q st f fd)(S:FnScope N ps (Xae st))
  (hb:∀(kV doc pm:Value) (an:Option Addr) (cdv ct:Value) (us:List Value),us.length=ps.length->bindArgs (fnOf m q (Xb5 st) (Xbi st) (Xae st) .none kV doc pm an cdv ct) ⟨us,[]⟩=pure (ps.zip us)) (hn:n=ps.length)
  (hbody:∀(cdv:Value) (A:Around) (outer:List Env) (s:Shared) (H:Hp) (E:XK),Room k (A.deeper (envOfC q (Xae st) s.heap.objs.size f cdv))->
   ∃t T,PSs (Xjs CX0 P w K mg base N q (Xae st) f cdv A outer s H E).nox (Xbi st) t/\Xc3 K t T/\∀ds Pr,sp ds Pr->T {nx:=λ_=>Pr (.fz .non),rt:=Pr} (Xeo N ds)): CalM P w K mg base c m (k+1) ps (spV K n sp):=by
 obtain⟨C,hC,cl,hm⟩:=Df.cl
 refine⟨C,f,fd,hC,cl,hm,Df.fn.ok S (λvs H Q E h=>by rw[<- hn];exact h.1) λcdv A outer s H vs Q E hr h=>?_,Df.fn.binds hb⟩
 obtain⟨_,F,ds,Pr,hs,hr',hsp,hq⟩:=h
 obtain⟨t,T,h1,h2,h3⟩:=hbody cdv A outer s H E hr
 refine⟨t,h1,h2 F H F H (Xd3 N vs) (Xeo N ds) {nx:=λ_=>Pr (.fz .non),rt:=Pr} _ ⟨_,Xhi hs hr'⟩ ⟨λF' H' Y δ e p=>?_,λ_ _ _ _ _ z=>z.elim,λ_ _ _ _ _ z=>z.elim,λF' H' r v x n p=>hq r v F' H' p x n⟩ (h3 ds Pr hsp)⟩
 exact hq _ _ F' H' p e.ext (.fz rfl)
end
end L2
namespace PySem
open Sem (wp)
section
variable {prog:Program}{w:World}{A:Around}{E:Value->Shared->Prop}{s:Shared}
theorem Xxi:typeLookup (.type "list_reverseiterator") "__len__"=pure none:=by rw[typeLookup_type];kernel_rfl
theorem Ydi:typeLookup (.type "list_reverseiterator") "__length_hint__"=pure (some (.builtin "list_reverseiterator.__length_hint__")):=by rw[typeLookup_type];kernel_rfl
theorem Xoh {I l:Addr}{i:Int}{Q:Bool->Shared->Prop}(hr:s.heap.IsRevIter I l i)(h:Q false s):wpAny (model prog w) A (Builtin.List.listLengthHint (.ref I)) Q E s:=by
 refine wpAny_bind (wpAny_specialOf hr.typeIs Xxi ?_)
 refine wpAny_bind (wpAny_specialOf hr.typeIs Ydi ?_)
 generalize hid:("list_reverseiterator.__length_hint__":String)=id0
 wp_delta
 subst hid
 refine wpAny_bind (wpAny_isInstance (T := "list_reverseiterator") (b:=true) hr.typeIs (by rw[isSubtype_type];kernel_rfl) ?_)
 refine wpAny_ite_split (λhab=>absurd hab (by decide)) (λ_=>?_)
 refine wpAny_ite_split (λ_=>?_) (λhab=>absurd (by decide +kernel) hab)
 exact wpAny_pure h
theorem Xlz {R:Result->Shared->Prop}{I l:Addr}{items:Array Value}(hh:A.handled=none)(hr:s.heap.IsRevIter I l ((items.size:Int)-1))(hl:s.heap.IsList l items)(hlen:items.size<=2^24)
  (S:Addr) (res:Value) (c₀:Nat) (hS:s.heap.get? S=some {cls:=.type "list",data:=.seq #[] c₀}) (hSI:S≠I) (hSl:S≠l) (hlI:l≠I)
  (hR:∀h' tk acc' c',(∀b o,b≠S->b≠I->s.heap.get? b=some o->h'.get? b=some o)->h'.get? S=some {cls:=.type "list",dict:=none,data:=.seq acc' c',slots:=#[]}->
   ItemsOf (λi v=>items[items.size-1-i]?=some v) acc' items.size->R (.ok (.ret res)) {s with heap:=h',toks:=tk}):
  wpAny (model prog w) A.in1 (Builtin.List.listExtendWith (.ref S) (.ref I) res)
   (λfin s'=>match fin with | .done f=>R (.ok f) s' | .again c'=>c'.quiet=true/\codeAny (model prog w) A c' R s') (λe s'=>R (.error e) s') s:=by
 have hSf:S∉[I,l]:=λhm=>by
  rcases mem_cons.mp hm with e |e
  .exact hSI e
  .exact hSl (mem_singleton.mp e)
 have W:=(Walks.listRev (prog:=prog) (w:=w) (A:=A.in1) hh I l hlI items).toS
 refine wpAny_bind (wpAny_typeOf hr.typeIs ?_)
 have h1:Builtin.List.listSameRef (.ref S) (.ref I)=false:=by simp[Builtin.List.listSameRef,hSI]
 have h2:(Value.type "list_reverseiterator"==Value.type "list")=false:=rfl
 have h3:(Value.type "list_reverseiterator"==Value.type "tuple")=false:=rfl
 simp only[h1,if_false]
 refine wpAny_bind (wpAny_pyIter_revIter hr ?_)
 refine wpAny_bind (wpAny_holding (Xoh hr ?_))
 refine wpAny_ite_split (λhab=>absurd hab (by decide)) (λ_=>wpAny_pure ⟨plainId_quiet F.plain_extend_loop _,?_⟩)
 refine codeAny_extend_loopS W (by rw[sizeLine_eq];omega) S hSf res items.size 0 _ #[] c₀ rfl (zero_le _) ⟨zero_le _,by simpa using hr,hl⟩ hS (ItemsOf.nil _) λs' acc' c' hm hS' hacc=>?_
 rw[Moved.eq_with hm]
 refine hR s'.heap s'.toks acc' c' (λb o hb hb2 e=>hm.heap b o (λhmem=>?_) e) hS' hacc
 rcases mem_cons.mp hmem with e' |hmem
 .exact hb e'
 .exact hb2 (mem_singleton.mp hmem)
theorem Xjb {R:Result->Shared->Prop}{I l:Addr}{items:Array Value}(hh:A.handled=none)(hr:s.heap.IsRevIter I l ((items.size:Int)-1))(hl:s.heap.IsList l items)(hlen:items.size<=2^24)
  (S:Addr) (hS:s.heap.get? S=some {cls:=.type "list",data:=.seq #[]}) (hSI:S≠I) (hSl:S≠l) (hlI:l≠I)
  (hR:∀h' tk acc' c',(∀b o,b≠S->b≠I->s.heap.get? b=some o->h'.get? b=some o)->h'.get? S=some {cls:=.type "list",dict:=none,data:=.seq acc' c',slots:=#[]}->
   ItemsOf (λi v=>items[items.size-1-i]?=some v) acc' items.size->R (.ok (.ret .none)) {s with heap:=h',toks:=tk}):
  wpAny (model prog w) A.in1 (Builtin.«list.__init__» ⟨[.ref S,.ref I],[]⟩)
   (λfin s'=>match fin with | .done f=>R (.ok f) s' | .again c'=>c'.quiet=true/\codeAny (model prog w) A c' R s') (λe s'=>R (.error e) s') s:=by
 refine wpAny_bind ?_
 refine wpAny_bind (wpAny_seqItems hS rfl (wpAny_pure ?_))
 refine wpAny_bind (wpAny_updateSeq hS rfl ?_)
 have hS₂:=get?_update_self (Obj.mapSeq (λ_=>(#[]:Array Value))) hS rfl
 have oth:∀b o,b≠S->s.heap.get? b=some o->(s.heap.update S (Obj.mapSeq (λ_=>(#[]:Array Value)))).get? b=some o:=
  λb o hb e=>(get?_update_other _ _ (Ne.symm hb)).trans e
 refine Xlz hh (hr.at λo e=>oth I o (Ne.symm hSI) e) (hl.at λo e=>oth l o (Ne.symm hSl) e) hlen S .none _ hS₂ hSI hSl hlI λh' tk acc' c' hk hS' hacc=>?_
 exact hR h' tk acc' c' (λb o hb hb2 e=>hk b o hb hb2 (oth b o hb e)) hS' hacc
theorem call_list_lri {Q:Value->Shared->Prop}{I l:Addr}{items:Array Value}(hh:A.handled=none)(hr:s.heap.IsRevIter I l ((items.size:Int)-1))(hl:s.heap.IsList l items)(hlen:items.size<=2^24)(hlI:l≠I)
  (hQ:∀h' tk acc' c',(∀b o,b≠I->s.heap.get? b=some o->h'.get? b=some o)->
   h'.get? s.heap.objs.size=some {cls:=.type "list",dict:=none,data:=.seq acc' c',slots:=#[]}->ItemsOf (λi v=>items[items.size-1-i]?=some v) acc' items.size->Q (.ref s.heap.objs.size) {s with heap:=h',toks:=tk}):
  wpAny (model prog w) A (call (.type "list") [.ref I]) Q E s:=by
 refine callType_codes (Q₁:=λobj s₁=>obj = .ref s.heap.objs.size/\s₁={s with heap:=s.heap.push {cls:=.type "list",data:=.seq #[]}}) F.called_list (F.typeCall_list_1 _) F.entry_list_init
  (code_list_new _ ⟨rfl,rfl⟩) λobj s₁ h₁=>?_
 obtain⟨rfl,rfl⟩:=h₁
 have hS:(s.heap.push {cls:=.type "list",data:=.seq #[]}).get? s.heap.objs.size=some {cls:=.type "list",data:=.seq #[]}:=get?_push_size _ rfl
 obtain⟨oI,hoI,_⟩:=id hr
 obtain⟨ol,hol,_⟩:=id hl
 refine⟨⟨_,hS,rfl⟩,F.args_list_init_2 _ _,Xjb (A:=A.in1) hh (hr.at λo e=>get?_push_of_some _ e) (hl.at λo e=>get?_push_of_some _ e) hlen _ hS (Ne.symm (ne_of_lt (lt_size hoI))) (Ne.symm (ne_of_lt (lt_size hol))) hlI λh' tk acc' c' hk hS' hacc=>?_⟩
 exact⟨rfl,hQ h' tk acc' c' (λb o hb e=>hk b o (ne_of_lt (lt_size e)) hb (get?_push_of_some _ e)) hS' hacc⟩
end
end PySem
namespace L2
open PySem PySem.Spec PyProof.Rows
def Xv5 (As:DA):DO:=λδ P=>As δ λds=>match ds with
 | [.lst xs]=>D.lfs xs=true/\xs.length<=1000000/\P (.nl (xs.reverse.map .fz))
 |_=>False
section
variable {X:Cx}{K:Frag}
def Xu4 (K:Frag)(ta:TA):TE:=λY H Q=>ta Y H λvs H1=>∃a xs,vs=[.ref a]/\SqL K H1 a xs/\xs.length<=1000000/\∀p H',H1 p=none->Xbj H1 H'->H' p=some (.lst xs.reverse)->Q (.ref p) H'
theorem Yb7 (r:Xbz xs its)(h:ItemsOf (λi v=>its.toArray[its.toArray.size-1-i]?=some v) acc its.toArray.size): Xbz xs.reverse acc.toList:=by
 have hr:Xbz xs.reverse its.reverse:=by
  clear h
  induction r with
  |nil=>exact .nil
  |cons a r ih=>
   rw[reverse_cons,reverse_cons]
   exact ih.append (.cons a .nil)
 have e:acc.toList=its.reverse:=by
  obtain⟨h1,h2⟩:=h
  have h1':acc.size=its.length:=h1
  refine ext_getElem? λi=>?_
  by_cases hi:i<its.length
  .rw [getElem?_reverse hi]
   have hia:i<acc.size:=by lia
   have q:=h2 i acc[i] (by simp)
   rw[Array.getElem?_toList,Array.getElem?_eq_getElem hia,<- q]
   simp
  .rw [getElem?_eq_none (by simp;lia),getElem?_eq_none (by simp;lia)]
 rw[e];exact hr
theorem Xw5 (hg:Gl X "list")(hm:X.mg "list"=none)(hc:X.calm=true)(hm':X.mg "reversed"=none)(ha:PA X [a] ta)(hg':Gl X "reversed":=by rfl)
  (hs:starEach [a] X.env=[(false,eval a X.env)]:=by rfl)
  (hs2:starEach [Expr.Call (.Name "reversed" p') [a] [] pos'] X.env=[(false,eval (Expr.Call (.Name "reversed" p') [a] [] pos') X.env)]:=by rfl):
  PE X (.Call (.Name "list" p) [.Call (.Name "reversed" p') [a] [] pos'] [] pos) (Xu4 X.K ta):=by
 intro pins s Y H Q I h
 refine Call_ (Xkp I hg hm PyProof.Rows.boot_list (PyProof.Rows.callWith_type1 ?_ hs2 rfl))
 refine Calls.spliced_cons ?_
 refine Call_ (Xkp I hg' hm' PyProof.Rows.boot_reversed (PyProof.Rows.callWith_type1 (thn (ha pos' pins s Y H _ I h) λus s1 ⟨vs,H1,I1,r1,q1⟩=>?_) hs rfl))
 obtain⟨l,xs,e,hq,hsz,q⟩:=q1
 subst e
 obtain⟨u,rfl,ru⟩:=Xhg r1
 cases ru
 obtain⟨its,rv,pt,hz⟩:=I1.list hq
 have hl:=rv.length
 refine PySem.call_reversed_list pt.isList ?_
 refine Calls.spliced_nil ?_
 have I2:Inv X pins Y H1 {s1 with heap:=s1.heap.push (revObj l ((its.toArray.size:Int)-1)),toks:=s1.toks}:=I1.kept λb o e=>get?_push_of_some _ e
 obtain⟨ol,hol,_⟩:=id pt.isList
 have hlt:=lt_size hol
 refine PySem.call_list_lri (I.ok.hd hc) ⟨_,get?_push_size _ rfl,rfl,rfl⟩ (pt.isList.at λo e=>get?_push_of_some _ e) (by rw[size_toArray];lia) (ne_of_lt hlt) λh' tk acc c' hk ho hit=>?_
 have hf:=I2.hok.fresh (Nat.le_refl _)
 have hsz2:(s1.heap.push (revObj l ((its.toArray.size:Int)-1))).objs.size=s1.heap.objs.size+1:=by simp
 refine⟨.ref _,_,I1.laid (t':=tk) (o:=.lst xs.reverse) (λb o e=>hk b o (ne_of_lt (lt_size e)) (get?_push_of_some _ e)) (by rw[hsz2];exact le_succ _) ⟨?_,acc.toList,c',Yb7 rv hit,?_⟩,rfl,q _ _ hf (Xbj.new hf) Xay⟩
 .rw [length_reverse];exact Xd0 hsz
 .simpa using ho
theorem Xwz (h:Xoa K a As): Xjx K (Xu4 K a) (Xv5 As):=λF0 H0 F H Y δ P Q e w q=>h F0 H0 F H Y δ _ _ e w λds vs F1 H1 w1 x1 r1=>by
 split at w1
 .obtain ⟨v,rfl,⟨a,us,rfl,h1,h2⟩⟩:=Xhe r1
  refine⟨a,us,rfl,h1,by rw[<- h2.length];exact w1.2.1,λp H' p0 sm p1=>?_⟩
  have hr:=(Xb1.lf x1.fh h2 w1.1).reverse
  refine q _ _ (Xun F1 H1) H' w1.2.2 (x1.trans ((Xff x1.fh).trans (Ext.grow (Xff x1.fh).fh sm))) ?_
  exact Xlg.list (x1.hh.free p0) ((Xff x1.fh).fh.free p0) p1 hr
 .exact w1.elim
end
def Yhe (x:Str)(n:Int):Str:=if n<1 then Str.empty else if (n==1 ||x.length==0)=true then x else ⟨(List.replicate n.toNat x.cps).foldl (·++·) #[]⟩
def Yi7 (E El:DE):DE:=λδ P=>E δ λd=>match d with
 | .str x=>El δ λl=>match l with
  | .lst ds=>∃ys:List Str,ds=ys.map D.str/\(ys.map (·.length)).sum+ys.length*x.length<=16777216/\P (.str (Txt.join x ys))
  |_=>False
 |_=>False
def Yh7:DR2:=λx y P=>match x,y with
 | .str x,.int n=>-(2^62)<n/\n<2^62/\x.length*n.toNat<=1000000/\P (.str (Yhe x n))
 |_,_=>False
def Yjm:DR2:=λx y P=>match x,y with
 | .str x,.str y=>x.length+y.length<=1000000/\P (.str (x++y))
 |_,_=>False
def Ynh:List D->(D->Prop)->Prop:=λds P=>match ds with
 | [.int i]=>i.natAbs.log2<1920/\P (.str (toString i))
 |_=>False
section
variable {X:Cx}{K:Frag}
def Yhh (K:Frag):V->List V->Hp->VK->Prop:=λx vs H Q=>∃sep p xs,∃ys:List Str,x = .str sep/\vs=[.ref p]/\SqL K H p xs/\xs=ys.map V.str/\(ys.map (·.length)).sum+ys.length*sep.length<=16777216/\Q (.str (Txt.join sep ys)) H
theorem Xli:∀{ys:List Str} {us:List Value},Xbz (ys.map V.str) us->StrsAre us ys
 | [],us,r=>by rw[map_nil]at r;cases r;exact .nil
 |y :: ys,us,r=>by
  cases r with
  |cons r1 r2=>
   obtain⟨t,e⟩:=r1
   subst e
   exact .cons y t (Xli r2)
theorem Xh2:MtR X "str.join" (Yhh X.K):=by
 intro pins s Y H x xs v us Q I rx r h
 obtain⟨sep,p,zs,ys,rfl,rfl,hq,rfl,hb,q⟩:=h
 obtain⟨t,rfl⟩:=rx
 obtain⟨u,rfl,ru⟩:=Xhg r
 cases ru
 obtain⟨its,rv,pt,hz⟩:=I.list hq
 refine PyProof.Rows.join_list pt.isList (by simpa using Xli rv) hb λt' k=>⟨.str _,H,I.tok k,⟨_,rfl⟩,q⟩
def Ykw:R2:=λx y H Q=>∃z n,x = .str z/\y = .int n/\-(2^62)<n/\n<2^62/\z.length*n.toNat<=1000000/\Q (.str (Yhe z n)) H
theorem Yhu:OpR X (binaryOp .Mult) Ykw:=by
 intro pins s Y H x y v u Q I rx ry h
 obtain⟨z,n,rfl,rfl,h1,h2,h3,q⟩:=h
 obtain⟨t,rfl⟩:=rx
 obtain⟨t',rfl⟩:=ry
 have q':∀k t,EP X pins Y Q (.str (Yhe z n) t) {s with toks:=k}:=λk t=>⟨.str _,H,I.tok k,⟨_,rfl⟩,q⟩
 refine PySem.P.mul_str ?_ (λa b=>?_) (λa b=>?_) ?_
 .simp;lia
 .have hz:z.length<=1000000:=le_trans (Nat.le_mul_of_pos_right _ (by lia)) h3
  have hn:n<=1000000∨z.length=0:=by
   by_cases hz0:z.length=0
   .exact .inr hz0
   .have:=le_trans (Nat.le_mul_of_pos_left n.toNat (Nat.pos_of_ne_zero hz0)) h3
    lia
  rcases hn with hn |hn
  .have e:(1000000:Int)<=(2^63-1) / n:=by
    rw[Int.le_ediv_iff_mul_le (by lia)]
    lia
   lia
  .simp [hn]at b
 .have:=Xd0 h3
  exact decide_eq_false (by lia)
 .have hq:=q' s.toks t
  have hq2:=q' (s.toks+1) s.toks
  unfold Yhe at hq hq2
  split
  .rename_i c
   rw[if_pos c]at hq2
   exact⟨zero_le _,hq2⟩
  .rename_i c
   rw[if_neg c]at hq hq2
   split
   .rename_i c2
    rw[if_pos c2]at hq
    exact hq
   .rename_i c2
    rw[if_neg c2]at hq2
    refine⟨?_,hq2⟩
    have e:∀(k:Nat) (a:Array Nat),((List.replicate k z.cps).foldl (·++·) a).size=a.size+k*z.cps.size:=by
     intro k
     induction k with
     |zero=>intro a;simp
     |succ k ih=>intro a;rw[replicate_succ,foldl_cons,ih,size_append,succ_mul];lia
    show ((List.replicate n.toNat z.cps).foldl (·++·) #[]).size<=sizeLine
    rw[e]
    have h3':z.cps.size*n.toNat<=1000000:=h3
    rw[Nat.mul_comm]at h3'
    exact Xd0 (by simpa using h3')
theorem Yh2:OpS K Ykw Yh7:=λF H x y v u P Q s rx ry w q=>by
 unfold Yh7 at w
 split at w
 .cases rx;cases ry
  exact⟨_,_,rfl,rfl,w.1,w.2.1,w.2.2.1,q _ _ F H w.2.2.2 (Ext.refl s) rfl⟩
 .exact w.elim
theorem Xnm:OpS K (λx y H Q=>∃i j,x = .str i/\y = .str j/\i.length+j.length<=sizeLine/\Q (.str (i++j)) H) Yjm:=λF H x y v u P Q s rx ry w q=>by
 unfold Yjm at w
 split at w
 .cases rx;cases ry
  exact⟨_,_,rfl,rfl,Xd0 w.1,q _ _ F H w.2 (Ext.refl s) rfl⟩
 .exact w.elim
def Yeq:V->Option Int->Option Int->Hp->VK->Prop:=λx lo hi H Q=>∃z,x = .str z/\z.length<=sizeLine/\Q (.str (Txt.slice z lo hi)) H
theorem Xln:SlR X Yeq:=by
 intro pins s Y H x v vl vu lo hi sl Q I rx hs pl pu h
 obtain⟨z,rfl,hz,q⟩:=h
 obtain⟨t,rfl⟩:=rx
 refine⟨"str",_,F.slot_str_getitem.lookup,typeIs_str _ _ _,?_⟩
 have fin:∀t' k,EP X pins Y Q (.str (Txt.slice z lo hi) t') {s with toks:=k}:=λt' k=>⟨.str _,H,I.tok k,⟨_,rfl⟩,q⟩
 have lp:∀{v:Value} {o:Option Int},IsPart v o->∃l:Option (Int×Tok),v=partValue l/\l.map (·.1)=o:=λh=>by
  cases h with
  |none=>exact⟨none,rfl,rfl⟩
  |int i t=>exact⟨some (i,t),rfl,rfl⟩
 obtain⟨l,rfl,e1⟩:=lp pl
 obtain⟨u,rfl,e2⟩:=lp pu
 subst e1 e2
 exact wpAny_getItem_str_slice (st:=none) hs rfl (post_val_or_str ⟨le_trans (Txt.slice_le z _ _) hz,λt' k=>fin t' k⟩)
theorem Yfu:CbS K (λxs H Q=>∃i,xs=[.int i]/\i.natAbs.log2<1920/\Q (.str (toString i)) H) Ynh:=λF H ds vs P Q s rs w q=>by
 unfold Ynh at w
 split at w
 .obtain ⟨v,rfl,r1⟩:=Xhe rs
  cases r1
  exact⟨_,rfl,w.1,q _ _ F H w.2 (Ext.refl s) rfl⟩
 .exact w.elim
theorem Xjn (h:Xe6 K te E)(ha:Xe6 K ta El): Xdi K (tBM K "str" (Yhh K) te (Xfr ta Xoi)) (Yi7 E El):=λF0 H0 F H Y δ P Q e w q=>h F0 H0 F H Y δ _ _ e w λd v F1 H1 w1 x1 r1=>by
 split at w1
 .rename_i x
  cases (show v=V.str x from r1)
  refine⟨rfl,ha F0 H0 F1 H1 Y δ _ _ (e.on x1) w1 λl u F2 H2 w2 x2 r2=>?_⟩
  split at w2
  .obtain ⟨ys,rfl,hb,w2⟩:=w2
   obtain⟨a,us,rfl,h1,h2⟩:=r2
   have hus:us=ys.map V.str:=by
    clear h1 hb w2
    induction ys generalizing us with
    |nil=>exact h2
    |cons y ys ih=>
     obtain⟨v,r,rfl,g1,g2⟩:=h2
     rw[ih _ g2,show v=V.str y from g1];rfl
   exact⟨x,a,us,ys,rfl,rfl,h1,hus,hb,q _ _ F2 H2 w2 (x1.trans x2) rfl⟩
  .exact w2.elim
 .exact w1.elim
def Ypd (E:DE)(L U:DPt):DE:=λδ P=>E δ λd=>L δ λlo=>U δ λhi=>match d with
 | .str z=>z.length<=1000000/\P (.str (Txt.slice z lo hi))
 |_=>False
theorem Xlr (ha:Xdi K ta Ea)(hl:Yfy K tl L)(hu:Yfy K tu U): Xdi K (tSl Yeq ta tl tu) (Ypd Ea L U):=λF0 H0 F H Y δ P Q e w q=>
 ha F0 H0 F H Y δ _ _ e w λd v F1 H1 w1 x1 r1=>hl F0 H0 F1 H1 Y δ _ _ (e.on x1) w1 λlo F2 H2 w2 x2=>hu F0 H0 F2 H2 Y δ _ _ (e.on (x1.trans x2)) w2 λhi F3 H3 w3 x3=>by
  split at w3
  .rename_i z
   cases (show v=V.str z from r1)
   exact⟨z,rfl,Xd0 w3.1,q _ _ F3 H3 w3.2 (x1.trans (x2.trans x3)) rfl⟩
  .exact w3.elim
theorem Xlv:∀{ds:List D} {vs:List V},Xb1 K F ds vs->vs.isEmpty=ds.isEmpty
 | [],vs,h=>by cases (show vs=[] from h);rfl
 |d::ds,vs,h=>by obtain⟨v,r,rfl,_⟩:=h;rfl
theorem Ych (h:Xe6 K t E): Xuv K (λY H Q=>t Y H λx H1=>∃k,Yof K x H1 k/\Q k H1) (Yfh E):=λF0 H0 F H Y δ P Q e w q=>h F0 H0 F H Y δ _ _ e w λd v F1 H1 w1 x1 r1=>by
 split at w1
 .cases r1;exact⟨_,rfl,q _ F1 H1 w1 x1⟩
 .rename_i i
  cases r1
  refine⟨_,rfl,q _ F1 H1 ?_ x1⟩
  rw[show (i != 0)=decide (i≠0) by rw[Bool.eq_iff_iff];simp]
  exact w1
 .obtain ⟨a,vs,rfl,h1,h2⟩:=r1
  exact⟨_,.inl ⟨vs,h1,by rw[Xlv h2]⟩,q _ F1 H1 w1 x1⟩
 .obtain ⟨a,vs,rfl,h1,h2⟩:=r1
  exact⟨_,.inr (.inl ⟨vs,h1,by rw[Xlv h2]⟩),q _ F1 H1 w1 x1⟩
 .cases r1;exact⟨_,rfl,q _ F1 H1 w1 x1⟩
 .exact w1.elim
end
def Yb1 (x:Str):List Str:=x.cps.toList.map λc=>⟨#[c]⟩
def Yph (E:DE):DA:=λδ P=>E δ λd=>match d with
 | .str x=>P ((Yb1 x).map D.str)
 |_=>False
section
variable {X:Cx}{K:Frag}
def Itx (x:Str):It:=⟨λi _=>i<x.cps.size,λi H v H'=>H'=H/\∃c,x.cps[i]?=some c/\v = .str ⟨#[c]⟩,λi _=>x.cps.size<=i⟩
theorem Xu2 (it:Addr)(x:Str)(t:Tok): Turn P w K tg (Itx x) [it] it (λi h=>i<=x.cps.size/\(h.IsStrIter it "str_ascii_iterator" x t i∨h.IsStrIter it "str_iterator" x t i)) where
 mem:=by simp
 obj:=λi h st b hb=>by
  have e:b=it:=by simpa using hb
  subst e
  rcases st.2 with⟨o,ho,_,hd⟩ | ⟨o,ho,_,hd⟩
  .exact ⟨o,ho,λv z=>by rw[hd]at z;cases z⟩
  .exact ⟨o,ho,λv z=>by rw[hd]at z;cases z⟩
 keep:=λi h h' st k=>⟨st.1,st.2.imp (λ⟨o,e,r⟩=>⟨o,k it (by simp) o e,r⟩) (λ⟨o,e,r⟩=>⟨o,k it (by simp) o e,r⟩)⟩
 item:=by
  intro X hP hw hK hc i pins s Y H E I hf st hg
  have hi:i<x.cps.size:=hg
  obtain⟨f0,f1,f2,f3,f4,f5⟩:=hf it (by simp)
  have hx:x.cps[i]?=some x.cps[i]:=Array.getElem?_eq_getElem hi
  rcases st.2 with st0 |st0
  .refine PySem.wpAny_pyNext_ascii_item st0 hx λh' st1 sb=>?_
   have I1:Inv X pins Y H {s with heap:=h',toks:=s.toks+1}:=I.turned (t':=s.toks+1) (λb o hb e=>(sb.2 b hb).trans e) f0 f1 f3 f4 f5
   obtain⟨o,ho,hc',hd'⟩:=id st1
   exact⟨_,rfl,Xui (s:={s with heap:=h',toks:=s.toks+1}) (n := "str_ascii_iterator") ho hc' hd' rfl ⟨.str ⟨#[x.cps[i]]⟩,H,I1,⟨_,rfl⟩,⟨rfl,_,hx,rfl⟩,⟨by lia,.inl st1⟩,λb hb=>(hf b hb).1⟩⟩
  .refine PySem.wpAny_pyNext_wide_item st0 hx λh' st1 sb=>?_
   have I1:Inv X pins Y H {s with heap:=h',toks:=s.toks+1}:=I.turned (t':=s.toks+1) (λb o hb e=>(sb.2 b hb).trans e) f0 f1 f3 f4 f5
   obtain⟨o,ho,hc',hd'⟩:=id st1
   exact⟨_,rfl,Xui (s:={s with heap:=h',toks:=s.toks+1}) (n := "str_iterator") ho hc' hd' rfl ⟨.str ⟨#[x.cps[i]]⟩,H,I1,⟨_,rfl⟩,⟨rfl,_,hx,rfl⟩,⟨by lia,.inr st1⟩,λb hb=>(hf b hb).1⟩⟩
 done:=by
  intro X hP hw hK hc i pins s Y H E I hf st hg
  obtain⟨f0,f1,f2,f3,f4,f5⟩:=hf it (by simp)
  have hx:x.cps[i]?=none:=Array.getElem?_eq_none hg
  rcases st.2 with st0 |st0
  .exact PySem.wpAny_pyNext_ascii_end (I.ok.hd hc) st0 hx λh' eb=>⟨rfl,I.turned (t':=s.toks) (λb o hb e=>eb b o hb e) f0 f1 f3 f4 f5⟩
  .exact PySem.wpAny_pyNext_wide_end (I.ok.hd hc) st0 hx λh' eb=>⟨rfl,I.turned (t':=s.toks) (λb o hb e=>eb b o hb e) f0 f1 f3 f4 f5⟩
 self:=λ_ _ _ _ _ st h=>by
  rcases st.2 with st0 |st0
  .exact PySem.wpAny_pyIter_striter_ascii st0 h
  .exact PySem.wpAny_pyIter_striter_wide st0 h
def Yo6 (te:TE):TI:=λY H R=>te Y H λv H1=>∃x,v = .str x/\R (Itx x) H1
theorem Yes (he:PE X l te): PI X tg l (Yo6 te):=by
 intro pins s Y H R I h
 refine thn (he pins s Y H _ I h) λu s1 ⟨v,H1,I1,r1,q1⟩=>?_
 obtain⟨x,e,q⟩:=q1
 subst e
 obtain⟨t,rfl⟩:=r1
 cases ha:x.cps.all (· < 128)
 .refine PySem.wpAny_pyIter_wide ha ?_
  refine⟨s1.heap.objs.size,[s1.heap.objs.size],_,_,H1,rfl,I1.kept (t':=s1.toks) λb o e=>get?_push_of_some _ e,Xu2 s1.heap.objs.size x t,⟨zero_le _,.inr ⟨_,get?_push_size _ rfl,rfl,rfl⟩⟩,λb hb=>?_,q⟩
  have e:b=s1.heap.objs.size:=by simpa using hb
  subst e
  exact I1.fpOk (Nat.le_refl _) (I1.hok.fresh (Nat.le_refl _))
 .refine PySem.wpAny_pyIter_ascii ha ?_
  refine⟨s1.heap.objs.size,[s1.heap.objs.size],_,_,H1,rfl,I1.kept (t':=s1.toks) λb o e=>get?_push_of_some _ e,Xu2 s1.heap.objs.size x t,⟨zero_le _,.inl ⟨_,get?_push_size _ rfl,rfl,rfl⟩⟩,λb hb=>?_,q⟩
  have e:b=s1.heap.objs.size:=by simpa using hb
  subst e
  exact I1.fpOk (Nat.le_refl _) (I1.hok.fresh (Nat.le_refl _))
theorem Yen (h:Xe6 K t E): Yb4 K (Yo6 t) (Yph E):=λF0 H0 F H Y δ P R e w q=>h F0 H0 F H Y δ _ _ e w λd v F' H' p x r=>by
 split at p
 .rename_i z
  cases (show v=V.str z from r)
  refine⟨z,rfl,q _ _ F' H' p x λF1 H1 s1 s2=>?_⟩
  have hl:((Yb1 z).map D.str).length=z.cps.size:=by simp[Yb1]
  rw[hl]
  refine⟨λi hi=>hi,Nat.le_refl _,λi v H2 hi y=>?_⟩
  obtain⟨rfl,c,hc,rfl⟩:=y
  refine⟨.str ⟨#[c]⟩,F1,?_,Ext.refl s2,rfl⟩
  simp[Yb1,hc]
 .exact p.elim
end
section
variable {X:Cx}{K:Frag}
end
section
variable {K:Frag}{c f:Str}{ns:List Str}{j:Nat}{ta:TE}{E:DE}
end
section
variable {X:Cx}{tg elt iter cd:Expr}{scope:Scope}{N:List Str}{ix:List (Option Nat)}{wi:TI}{g:TG}{tc:TT}{te:TE}{pos:Pos}
end
section
variable {K:Frag}{te:TE}{Eo:DO}
end
theorem adr {x y:Nat}(h:x≠y):(show Addr from x)≠(show Addr from y):=h
section
variable {prog:Program}{w:World}{A:Around}{E:Value->Shared->Prop}{s:Shared}
end
section
variable {X:Cx}{K:Frag}{mg:Str->Option Value}
end
section
variable {X:Cx}{K:Frag}
end
abbrev TK:=V->St->Hp->(Bool->Hp->Prop)->Prop
def Yn2 (r:R2)(te:TE):TK:=λx Y H Q=>te Y H λy H1=>r x y H1 λz H2=>∃k,z = .bl k/\Q k H2
section
variable {X:Cx}{K:Frag}{a e e':Expr}{es:List Expr}{op op':CmpOp}{ops:List CmpOp}{r:R2}{ta te:TE}{tk:TK}{pos:Pos}
def PKc (X:Cx)(ops:List CmpOp)(es:List Expr)(t:TK):Prop:=∀(pos:Pos) (pins:List (Addr×Obj)) (s:Shared) (Y:St) (H:Hp) (x:V) (v:Value) (Q:Bool->Hp->Prop),Inv X pins Y H s->Xdh x v->t x Y H Q->wpAny (model X.prog X.w) X.A (testChain pos v ops (evalEach es X.env)) (TP X pins Y Q) X.xe s
theorem Xt5 (ho:OpR X (compareOp op) r)(he:PE X e te): PKc X [op] [e] (Yn2 r te):=by
 intro pos pins s Y H x v Q I rx h
 refine test_last (thn (he pins s Y H _ I h) λu s1 ⟨y,H1,I1,r1,q1⟩=>thn (ho pins s1 Y H1 x y v u _ I1 rx r1 q1) λd s2 ⟨z,H2,I2,r2,k,ez,q2⟩=>?_)
 subst ez
 cases r2
 exact wpAny_truthy_bool ⟨H2,I2,q2⟩
end
abbrev DK:=D->Dst->(Bool->Prop)->Prop
section
variable {K:Frag}{ta te:TE}{E Ea:DE}{tk:TK}{k:DK}{R:R2}{r:DR2}
end
def Yem:DS:=λ_ _=>False
section
variable {X:Cx}{K:Frag}{st:Stmt}{sts:List Stmt}
theorem Xmf:Xc3 K Yeb Yem:=λ_ _ _ _ _ _ _ _ _ _ w=>w.elim
end
abbrev P2 (h:Heap)(t:Addr)(a b:Value):Prop:=h.get? t=some {cls:=.type "tuple",data:=.seq #[a,b]}
abbrev Zt (h:Heap)(b:Nat)(v:Value):Prop:=IsZip h (b+4) (b+2) (b+3) v
theorem Xe8 (x:IsTupIter h a t i)(e:∀o,h.get? a=some o->h'.get? a=some o): IsTupIter h' a t i:=let⟨o,ho,r⟩:=x;⟨o,e _ ho,r⟩
section
variable {prog:Program}{w:World}{A:Around}{E:Value->Shared->Prop}{s:Shared}
theorem Xpl {Q:Value->Shared->Prop}(hi:IsTupIter s.heap it t i)(ht:IsTup s.heap t its)(hx:its[i]?=some x)(q:∀g,IsTupIter g it t (i+1)->Heap.SameBut it s.heap g->Q x {s with heap:=g}): wpAny (model prog w) A (Builtin.SmallTypes.nextOf (.ref it)) Q E s:=by
 obtain⟨o,o1,o2,o3⟩:=id hi
 obtain⟨p,p1,_,n,p2⟩:=ht
 refine wpAny_bind (wpAny_callSpecial?_slot (name:=Str.ofString "__next__") hi.typeIs slot_tupleiter_next (wpAny_call_entry slot_tupleiter_next hi.typeIs entry_tupleiter_next ?_ (args_tupleiter_next _)))
 show wpAny _ _ (field (.ref it) 0 >>= _) _ _ s
 refine wpAny_bind (wpAny_field o1 o3 (x:=.ref t) rfl ?_)
 refine wpAny_bind (wpAny_field o1 o3 (x:=.int i 0) rfl ?_)
 refine wpAny_bind (wpAny_seqItems p1 p2 ?_);simp only[hx,toNat_natCast]
 refine wpAny_bind (wpAny_setField o1 o3 (by simp) (wpAny_pure ⟨x,rfl,wpAny_pure (q _ ?_ (Heap.SameBut.update ..))⟩))
 exact⟨_,get?_update_self _ o1 (Obj.isFreed_of_fields (Obj.data_mapFields o3 _)),(Obj.cls_mapFields ..).trans o2,by rw[Obj.data_mapFields o3];simp[rawInt]⟩
theorem Xz5 {it t:Addr}{i:Nat}{its:Array Value}{Q:Value->Shared->Prop}(hh:A.handled=none)(hi:IsTupIter s.heap it t i)(ht:IsTup s.heap t its)(hx:its[i]?=none)(q:∀g e,Heap.ExtBut it s.heap g->(∃o,g.get? e=some o/\o.cls = .type "StopIteration")->E (.ref e) {s with heap:=g}):wpAny (model prog w) A (Builtin.SmallTypes.nextOf (.ref it)) Q E s:=by
 obtain⟨o,o1,o2,o3⟩:=id hi
 obtain⟨p,p1,_,n,p2⟩:=ht
 refine wpAny_bind (wpAny_callSpecial?_slot (name:=Str.ofString "__next__") hi.typeIs slot_tupleiter_next (wpAny_call_entry slot_tupleiter_next hi.typeIs entry_tupleiter_next ?_ (args_tupleiter_next _)))
 show wpAny _ _ (field (.ref it) 0 >>= _) _ _ s
 refine wpAny_bind (wpAny_field o1 o3 (x:=.ref t) rfl ?_)
 refine wpAny_bind (wpAny_field o1 o3 (x:=.int i 0) rfl ?_)
 refine wpAny_bind (wpAny_seqItems p1 p2 ?_);simp only[hx,toNat_natCast]
 refine wpAny_bind (wpAny_rule (wpAny_bind (wpAny_setField o1 o3 (by simp) ?_)))
 refine wpAny_bind ?_;simp only[ newExc]
 refine wpAny_bind (wpAny_newObj_type ?_ (by size_fits));refine wpAny_bind (m:=firstArgMember _ _) (wpAny_of_eq (by first |rfl | (simp only[firstArgMember];rfl)) ?_)
 refine wpAny_newObj_type ?_ (by size_fits);simp only[raiseNew]
 refine wpAny_bind (wpAny_handled ?_);first |rw[show A.in1.handled=none from hh] |rw[hh]
 exact wpAny_bind (wpAny_pure (wpAny_throw (q _ _ (((Heap.SameBut.update ..).extBut.push _).push _) ⟨_,get?_push_size _ rfl,rfl⟩)))
theorem Yeu {t:Addr}{a b x:Value}{k:Nat}{Q:Unit->Shared->Prop}(ht:P2 s.heap t a b)
  (q:∀g,g.get? t=some {cls:=.type "tuple",data:=.seq ((#[a,b]:Array Value).setIfInBounds k x)}->Heap.SameBut t s.heap g->Q () {s with heap:=g}):wpAny (model prog w) A (updateSeq t (·.setIfInBounds k x)) Q E s:=by
 refine wpAny_updateSeq ht rfl (q _ ?_ (Heap.SameBut.update ..))
 rw[get?_update_self _ ht rfl];simp[Obj.mapSeq]
theorem Xxz {Q:Value->Shared->Prop}(hb:l1<b/\l2<b)
  (Z:Zt s.heap b .none) (I0:P2 s.heap (b+2) (.ref b) (.ref (b+1))) (O0:P2 s.heap (b+3) a1 a2) (w1:IsTupIter s.heap b l1 k) (w2:IsTupIter s.heap (b+1) l2 k)
  (p1:IsTup s.heap l1 xs) (p2:IsTup s.heap l2 ys) (e1:xs[k]?=some x) (e2:ys[k]?=some y)
  (q:∀g,Zt g b (rawInt s.heap.objs.size)->P2 g (b+3) x y->IsTupIter g b l1 (k+1)->IsTupIter g (b+1) l2 (k+1)->P2 g s.heap.objs.size x y->g.objs.size=s.heap.objs.size+1->
   (∀c o,c≠b+4->c≠b+3->c≠b->c≠b+1->s.heap.get? c=some o->g.get? c=some o)->Q (.ref s.heap.objs.size) {s with heap:=g}):
  wpAny (model prog w) A (Builtin.«zip.__next__» ⟨[.ref (b+4)],[]⟩) (λr s'=>∃v,r = .done (.ret v)/\Q v s') E s:=by
 obtain⟨b1,b2⟩:=hb
 have off:∀l:Nat,l<b->l≠b+4/\l≠b+3/\l≠b:=λl h=>⟨by lia,by lia,by lia⟩
 obtain⟨a14,_,_⟩:=off l1 b1
 obtain⟨a24,a23,a20⟩:=off l2 b2
 show wpAny _ _ (field (.ref (b+4)) 2 >>= _) _ _ _
 refine wpAny_bind (wpAny_field Z rfl (x:=.bool false) rfl ?_)
 refine wpAny_bind (wpAny_field Z rfl (x:=.ref (b+2)) rfl (wpAny_bind (wpAny_seqItems I0 rfl ?_)))
 refine wpAny_bind ?_
 refine wpAny_bind (wpAny_field Z rfl rfl (wpAny_pure ?_));simp only[if_true]
 refine wpAny_bind (wpAny_rule (wpAny_bind (wpAny_field Z rfl (x:=.ref (b+3)) rfl (wpAny_bind (wpAny_setField_rec Z (by simp) λg1 Z1 f1=>?_)))))
 refine wpAny_bind ?_
 refine wpAny_bind (wpAny_bind (wpAny_onRaise ?_))
 refine wpAny_bind (Xpl (w1.extBut f1.extBut (adr (by lia))) (p1.extBut f1.extBut a14) e1 λg2 v1 f2=>wpAny_pure ?_)
 have O2:P2 g2 (b+3) a1 a2:=f2.extBut _ _ (adr (by lia)) (f1.extBut _ _ (adr (by lia)) O0)
 refine wpAny_bind (wpAny_seqItems O2 rfl (wpAny_bind (Yeu O2 λg3 O3 f3=>wpAny_bind (wpAny_letGo (wpAny_pure ?_)))))
 refine wpAny_bind (wpAny_bind (wpAny_onRaise ?_))
 refine wpAny_bind (Xpl (((w2.extBut f1.extBut (adr (by lia))).extBut f2.extBut (adr (by lia))).extBut f3.extBut (adr (by lia))) (((p2.extBut f1.extBut a24).extBut f2.extBut a20).extBut f3.extBut a23) e2 λg4 v2 f4=>wpAny_pure ?_)
 have O4:P2 g4 (b+3) x a2:=f4.extBut _ _ (adr (by lia)) O3
 refine wpAny_bind (wpAny_seqItems O4 rfl (wpAny_bind (Yeu O4 λg5 O5 f5=>wpAny_bind (wpAny_letGo (wpAny_pure (wpAny_pure ?_))))))
 replace O5:P2 g5 (b+3) x y:=O5
 refine wpAny_bind (wpAny_seqItems O5 rfl (wpAny_bind (wpAny_newTuple ?_)))
 have size:g5.objs.size=s.heap.objs.size:=by rw[f5.1,f4.1,f3.1,f2.1,f1.1]
 have Z5:Zt g5 b .ellipsis:=f5.extBut _ _ (adr (by lia)) (f4.extBut _ _ (adr (by lia)) (f3.extBut _ _ (adr (by lia)) (f2.extBut _ _ (adr (by lia)) Z1)))
 have keep:∀c o,c≠b+4->c≠b+3->c≠b->c≠b+1->s.heap.get? c=some o->g5.get? c=some o:=λc o c1 c2 c3 c4 e=>
  f5.extBut _ _ c2 (f4.extBut _ _ c4 (f3.extBut _ _ c2 (f2.extBut _ _ c3 (f1.extBut _ _ c1 e))))
 have m1:IsTupIter g5 b l1 (k+1):=((v1.extBut f3.extBut (adr (by lia))).extBut f4.extBut (adr (by lia))).extBut f5.extBut (adr (by lia))
 have m2:IsTupIter g5 (b+1) l2 (k+1):=v2.extBut f5.extBut (adr (by lia))
 have zlt:b+4<g5.objs.size:=lt_size Z5
 refine wpAny_bind ?_
 have Z8:Zt (g5.push {cls:=.type "tuple",data:=.seq #[x,y]}) b .ellipsis:=get?_push_of_some _ Z5
 refine wpAny_bind (wpAny_setField_rec Z8 (by simp) λg9 Z9 f9=>?_)
 refine wpAny_setField_rec Z9 (by simp) λg10 Z10 f10=>?_
 have up:∀c o,c≠b+4->g5.get? c=some o->g10.get? c=some o:=λc o c1 e=>f10.extBut _ _ c1 (f9.extBut _ _ c1 (get?_push_of_some _ e))
 have T10:P2 g10 g5.objs.size x y:=f10.extBut _ _ (ne_of_gt zlt) (f9.extBut _ _ (ne_of_gt zlt) (get?_push_size _ rfl))
 have sz10:g10.objs.size=g5.objs.size+1:=by rw[f10.1,f9.1,size_push]
 rw[size]at Z10 T10 sz10
 refine wpAny_pure ⟨_,rfl,?_⟩
 rw[size]
 exact q g10 Z10 (up _ _ (adr (by lia)) O5) (Xe8 m1 λo e=>up _ o (adr (by lia)) e) (Xe8 m2 λo e=>up _ o (adr (by lia)) e) T10 sz10 λc o c1 c2 c3 c4 e=>up c o c1 (keep c o c1 c2 c3 c4 e)
theorem Xxy {b k:Nat}{l1:Addr}{xs:Array Value}{i2:Value}{Q:Fin->Shared->Prop}(hh:A.handled=none)(hb:l1<b)(Z:Zt s.heap b .none)(I0:P2 s.heap (b+2) (.ref b) i2)(w1:IsTupIter s.heap b l1 k)(p1:IsTup s.heap l1 xs)(e1:xs[k]?=none)
  (q:∀g e,(∀c o,c≠b+4->c≠b->s.heap.get? c=some o->g.get? c=some o)->(∃o,g.get? e=some o/\o.cls = .type "StopIteration")->E (.ref e) {s with heap:=g}):wpAny (model prog w) A (Builtin.«zip.__next__» ⟨[.ref (b+4)],[]⟩) Q E s:=by
 have a14:l1≠b+4:=ne_of_lt (lt_of_lt_of_le hb (Nat.le_add_right b 4))
 show wpAny _ _ (field (.ref (b+4)) 2 >>= _) _ _ _
 refine wpAny_bind (wpAny_field Z rfl (x:=.bool false) rfl ?_)
 refine wpAny_bind (wpAny_field Z rfl (x:=.ref (b+2)) rfl (wpAny_bind (wpAny_seqItems I0 rfl ?_)))
 refine wpAny_bind ?_
 refine wpAny_bind (wpAny_field Z rfl rfl (wpAny_pure ?_));simp only[if_true]
 refine wpAny_bind (wpAny_rule (wpAny_bind (wpAny_field Z rfl (x:=.ref (b+3)) rfl (wpAny_bind (wpAny_setField_rec Z (by simp) λg1 Z1 f1=>?_)))))
 refine wpAny_bind ?_
 refine wpAny_bind (wpAny_bind (wpAny_onRaise ?_))
 refine wpAny_bind (Xz5 hh (w1.extBut f1.extBut (adr (by lia))) (p1.extBut f1.extBut a14) e1 λg2 e f2 he=>?_)
 obtain⟨oe,o1,o2⟩:=he
 have Z2:Zt g2 b .ellipsis:=f2 _ _ (adr (by lia)) Z1
 have ez:e≠b+4:=λy=>by subst y;rw[Z2]at o1;cases o1;simp at o2
 exact wpAny_setField_rec Z2 (by simp) λg3 _ f3=>q g3 e (λc o c1 c3 y=>f3.extBut _ _ c1 (f2 _ _ c3 (f1.extBut _ _ c1 y))) ⟨oe,f3.extBut _ _ ez o1,o2⟩
theorem Yh3 {Q:Option Value->Shared->Prop}(hb:l1<b/\l2<b)
  (Z:Zt s.heap b .none) (I0:P2 s.heap (b+2) (.ref b) (.ref (b+1))) (O0:P2 s.heap (b+3) a1 a2) (w1:IsTupIter s.heap b l1 k) (w2:IsTupIter s.heap (b+1) l2 k)
  (p1:IsTup s.heap l1 xs) (p2:IsTup s.heap l2 ys) (e1:xs[k]?=some x) (e2:ys[k]?=some y)
  (q:∀g,Zt g b (rawInt s.heap.objs.size)->P2 g (b+3) x y->IsTupIter g b l1 (k+1)->IsTupIter g (b+1) l2 (k+1)->P2 g s.heap.objs.size x y->g.objs.size=s.heap.objs.size+1->
   (∀c o,c≠b+4->c≠b+3->c≠b->c≠b+1->s.heap.get? c=some o->g.get? c=some o)->Q (some (.ref s.heap.objs.size)) {s with heap:=g}): wpAny (model prog w) A (pyNext (.ref (b+4))) Q E s:=by
 have tz:s.TypeIs (.ref (b+4)) "zip":=⟨_,Z,rfl⟩
 exact wpAny_bind (wpAny_attempt (wpAny_callSpecial?_slot (name:=Str.ofString "__next__") tz F.slot_zip_next (wpAny_call_entry F.slot_zip_next tz F.entry_zip_next
  (Xxz hb Z I0 O0 w1 w2 p1 p2 e1 e2 λg c1 c2 c3 c4 c5 c6 c7=>wpAny_pure (q g c1 c2 c3 c4 c5 c6 c7)) (F.args_zip_next_1 _))))
theorem Xue {Q:Option Value->Shared->Prop}(hh:A.handled=none)(hb:l1<b)(Z:Zt s.heap b .none)(I0:P2 s.heap (b+2) (.ref b) i2)(w1:IsTupIter s.heap b l1 k)(p1:IsTup s.heap l1 xs)(e1:xs[k]?=none)
  (q:∀g,(∀c o,c≠b+4->c≠b->s.heap.get? c=some o->g.get? c=some o)->Q none {s with heap:=g}): wpAny (model prog w) A (pyNext (.ref (b+4))) Q E s:=by
 have tz:s.TypeIs (.ref (b+4)) "zip":=⟨_,Z,rfl⟩
 refine wpAny_bind (wpAny_attempt (wpAny_callSpecial?_slot (name:=Str.ofString "__next__") tz F.slot_zip_next (wpAny_call_entry F.slot_zip_next tz F.entry_zip_next (Xxy hh hb Z I0 w1 p1 e1 λg e k1 k2=>?_) (F.args_zip_next_1 _))))
 obtain⟨o,o1,o2⟩:=k2
 exact wpAny_bind (wpAny_isInstance (T := "StopIteration") ⟨o,o1,o2⟩ isSubtype_stop (wpAny_pure (q _ k1)))
end
abbrev wot (l:Addr):Obj:={cls:=.type "tuple_iterator",data:=.fields #[.ref l,.int 0 0]}
abbrev ztp (h:Heap)(l1:Addr):Heap:=h.push (wot l1)
abbrev ztq (h:Heap)(l1 l2:Addr):Heap:=(ztp h l1).push (wot l2)
abbrev zts (h:Heap)(l1 l2:Addr):Heap:=(ztq h l1 l2).push {cls:=.type "tuple",data:=.seq #[.ref h.objs.size,.ref (ztp h l1).objs.size]}
abbrev ztt (h:Heap)(l1 l2:Addr):Heap:=(zts h l1 l2).push {cls:=.type "tuple",data:=.seq #[.none,.none]}
abbrev ztu (h:Heap)(l1 l2:Addr):Heap:=(ztt h l1 l2).push {cls:=.type "zip",data:=.fields #[.none,.bool false,.bool false,.ref (ztq h l1 l2).objs.size,.ref (zts h l1 l2).objs.size]}
theorem Yb6 (l1 l2:Addr)(xs ys:Array Value): Meets (Builtin.«zip.__new__» ⟨[.type "zip",.ref l1,.ref l2],[]⟩) (λ_ R s=>IsTup s.heap l1 xs/\IsTup s.heap l2 ys/\R (.ok (.ret (.ref (ztt s.heap l1 l2).objs.size))) {s with heap:=ztu s.heap l1 l2}):=
 .of_wp λprog w A R s h=>by
  obtain⟨hp,g,d,tk,os⟩:=s;obtain⟨p1,p2,h⟩:=h
  have hsub:=sub_zip
  have n1:IsTup (Shared.heap ⟨hp,g,d,tk,os⟩) l1 xs:=p1
  have n2:IsTup (Shared.heap ⟨hp.push (wot l1),g,d,tk,os⟩) l2 ys:=IsTup.push p2 _
  wp_walk using iter_tuple n1,iter_tuple n2
  exact⟨_,rfl,h⟩
theorem Ybq {prog:Program}{w:World}{A:Around}{E:Value->Shared->Prop}{s:Shared}{l1 l2:Addr}{xs ys:Array Value}{Q:Value->Shared->Prop}(p1:IsTup s.heap l1 xs)(p2:IsTup s.heap l2 ys)
  (q:∀g,Zt g s.heap.objs.size .none->P2 g (s.heap.objs.size+2) (.ref s.heap.objs.size) (.ref (s.heap.objs.size+1))->P2 g (s.heap.objs.size+3) .none .none->IsTupIter g s.heap.objs.size l1 0->IsTupIter g (s.heap.objs.size+1) l2 0->
   (∀c o,s.heap.get? c=some o->g.get? c=some o)->Q (.ref (s.heap.objs.size+4)) {s with heap:=g}):wpAny (model prog w) A (call (.type "zip") [.ref l1,.ref l2]) Q E s:=by
 refine callType_new F.called_zip rfl (F.typeCall_zip_2 _ _) (F.newCall_zip_2 _ _) (λo=>F.args_object_init_3 o _ _) F.entry_zip_new (Yb6 l1 l2 xs ys) ⟨p1,p2,?_⟩
 have y1:(ztp s.heap l1).objs.size=s.heap.objs.size+1:=size_push ..
 have y2:(ztq s.heap l1 l2).objs.size=s.heap.objs.size+2:=by rw[size_push,y1]
 have y3:(zts s.heap l1 l2).objs.size=s.heap.objs.size+3:=by rw[size_push,y2]
 have y4:(ztt s.heap l1 l2).objs.size=s.heap.objs.size+4:=by rw[size_push,y3]
 have on:∀{h:Heap} {o o':Obj} {c:Addr},h.get? c=some o->(h.push o').get? c=some o:=λe=>get?_push_of_some _ e
 have k5:(ztu s.heap l1 l2).get? (ztt s.heap l1 l2).objs.size=some _:=get?_push_size _ rfl
 have k4:(ztu s.heap l1 l2).get? (zts s.heap l1 l2).objs.size=some _:=on (get?_push_size _ rfl)
 have k3:(ztu s.heap l1 l2).get? (ztq s.heap l1 l2).objs.size=some _:=on (on (get?_push_size _ rfl))
 have k2:(ztu s.heap l1 l2).get? (ztp s.heap l1).objs.size=some _:=on (on (on (get?_push_size _ rfl)))
 have k1:(ztu s.heap l1 l2).get? s.heap.objs.size=some _:=on (on (on (on (get?_push_size _ rfl))))
 rw[y2,y3,y4]at k5
 rw[y3]at k4
 rw[y1,y2]at k3
 rw[y1]at k2
 rw[y4]
 exact⟨⟨_,k5,rfl⟩,q _ k5 k3 k4 ⟨_,k1,rfl,rfl⟩ ⟨_,k2,rfl,rfl⟩ λc o e=>on (on (on (on (on e))))⟩
def Ymd (As:DA):DA:=λδ P=>As δ λds=>match ds with
 | [.tup xs,.tup ys]=>xs.length<=ys.length/\P ((xs.zip ys).map λp=>D.tup [p.1,p.2])
 |_=>False
section
variable {X:Cx}{K:Frag}{mg:Str->Option Value}
def Ypp (K:Frag)(a1 a2:Addr)(xs ys:List V):It:=
 ⟨λi H=>SqT K H a1 xs/\SqT K H a2 ys/\i<xs.length/\i<ys.length,λi H x H'=>∃p y1 y2,x = .ref p/\H p=none/\Xbj H H'/\xs[i]?=some y1/\ys[i]?=some y2/\H' p=some (.tup [y1,y2]),λi H=>SqT K H a1 xs/\xs.length<=i⟩
theorem Yn6 (h:c∈[b+4,b+2,b+3,b,b+1]): c=b+4∨c=b+2∨c=b+3∨c=b∨c=b+1:=by simpa using h
theorem Xx5 (a1 a2:Addr)(b:Nat)(xs ys:List V)(hb:a1<b/\a2<b):
  Turn P w K (.Tuple elts x1 tpos) (Ypp K a1 a2 xs ys) [b+4,b+2,b+3,b,b+1] (b+4) (λi h=>Zt h b .none/\P2 h (b+2) (.ref b) (.ref (b+1))/\(∃c d,P2 h (b+3) c d)/\IsTupIter h b a1 i/\IsTupIter h (b+1) a2 i) where
 mem:=by simp
 obj:=λi h st c hc=>by
  obtain⟨h1,h2,⟨_,_,h3⟩,⟨o4,q4,_,r4⟩,⟨o5,q5,_,r5⟩⟩:=st
  rcases Yn6 hc with q |q |q |q |q
  .rw [q];exact⟨_,h1,λv q=>by cases q⟩
  .rw [q];exact⟨_,h2,λv q=>by cases q⟩
  .rw [q];exact⟨_,h3,λv q=>by cases q⟩
  .rw [q];exact⟨_,q4,λv q=>by rw[r4]at q;cases q⟩
  .rw [q];exact⟨_,q5,λv q=>by rw[r5]at q;cases q⟩
 keep:=λi h h' st k=>by
  obtain⟨h1,h2,⟨c,d,h3⟩,h4,h5⟩:=st
  exact⟨k _ (by simp) _ h1,k _ (by simp) _ h2,⟨c,d,k _ (by simp) _ h3⟩,Xe8 h4 λo q=>k _ (by simp) o q,Xe8 h5 λo q=>k _ (by simp) o q⟩
 item := by
  kj_on
  obtain⟨h1,h2,⟨c,d,h3⟩,h4,h5⟩:=st
  obtain⟨hq1,hq2,hi1,hi2⟩:=hg
  obtain⟨its1,rv1,p1,hz1⟩:=I.tuple hq1
  obtain⟨its2,rv2,p2,hz2⟩:=I.tuple hq2
  obtain⟨u1,hu1,ru1⟩:=rv1.get (i:=i) (x:=xs[i]) (by simp)
  obtain⟨u2,hu2,ru2⟩:=rv2.get (i:=i) (x:=ys[i]) (by simp)
  refine Yh3 hb h1 h2 h3 h4 h5 p1 p2 (by simpa using hu1) (by simpa using hu2) λh' g1 g2 g3 g4 g6 g7 g8=>?_
  refine⟨_,rfl,wpAny_letOwnedTupleGo_zip g1 λh'' k1 k2=>?_⟩
  have hf':=I.hok.fresh (Nat.le_refl _)
  have I0:Inv X pins Y (upd H s.heap.objs.size (.tup [xs[i],ys[i]])) {s with heap:=s.heap.push {cls:=.type "tuple",data:=.seq #[u1,u2]},toks:=s.toks}:=
   I.laid (t':=s.toks) (o:=.tup [xs[i],ys[i]]) (λb ob q=>get?_push_of_some _ q) (Nat.le_refl _) ⟨Xd0 (n:=2) (by decide),[u1,u2],.cons ru1 (.cons ru2 .nil),⟨_,get?_push_size _ rfl,rfl,_,rfl⟩⟩
  have old:∀c∈[b+4,b+2,b+3,b,b+1],c≠s.heap.objs.size:=λc hc q=>by
   have hlt:c<s.heap.objs.size:=by
    rcases Yn6 hc with y |y |y |y |y
    .rw [y];exact lt_size h1
    .rw [y];exact lt_size h2
    .rw [y];exact lt_size h3
    .obtain ⟨o,r1,_⟩:=h4
     rw[y];exact lt_size r1
    .obtain ⟨o,r1,_⟩:=h5
     rw[y];exact lt_size r1
   rw[q]at hlt
   exact lt_irrefl _ hlt
  have fe:∀c∈[b+4,b+2,b+3,b,b+1],Xmt X pins (upd H s.heap.objs.size (.tup [xs[i],ys[i]])) c:=λc hc=>by
   obtain⟨q0,q1,q2,q3,q4,q5⟩:=hf c hc
   refine⟨?_,q1,q2,q3,q4,q5⟩
   rw[Xbu]
   .exact q0
   .exact old c hc
  have I1 : Inv X pins Y (upd H s.heap.objs.size (.tup [xs[i],ys[i]])) {s with heap:=h'',toks:=s.toks}:=by
   have:=I0.turnedL (h':=h'') (t':=s.toks) (L:=[b+4,b+3,b,b+1]) (λc o hb q=>?_) (λc hc=>fe c (by
    have hc':c=b+4∨c=b+3∨c=b∨c=b+1:=by simpa using hc
    rcases hc' with y |y |y |y<;>simp[y]))
   .exact this
   .have bz:c≠b+4:=λy=>hb (by simp[y])
    have hb2:h'.get? c=some o:=by
     by_cases y:c=s.heap.objs.size
     .subst y
      rw[get?_push_size _ rfl]at q
      rw[<- q];exact g6
     .rw [Heap.get?_push_ne _ _ _ y]at q
      exact g8 c o bz (λy=>hb (by simp[y])) (λy=>hb (by simp[y])) (λy=>hb (by simp[y])) q
    exact k2.extBut c o bz hb2
  have hT:P2 h' (b+2) _ _:=g8 (b+2) _ (adr (by lia)) (adr (by lia)) (adr (by lia)) (adr (by lia)) h2
  refine⟨.ref s.heap.objs.size,_,I1,rfl,⟨_,xs[i],ys[i],rfl,hf',Xbj.new hf',by simp,by simp,Xay⟩,⟨k1,k2.extBut _ _ (adr (by lia)) hT,⟨_,_,k2.extBut _ _ (adr (by lia)) g2⟩,g3.extBut k2.extBut (adr (by lia)),g4.extBut k2.extBut (adr (by lia))⟩,λc hc=>(fe c hc).1⟩
 done:=by
  kj_on
  obtain⟨h1,h2,_,h4,_⟩:=st
  obtain⟨hq1,hi⟩:=hg
  obtain⟨its1,rv1,p1,hz1⟩:=I.tuple hq1
  have hl1:=rv1.length
  refine Xue (I.ok.hd hc) hb.1 h1 h2 h4 p1 (by simp;lia) λh' eb=>⟨rfl,I.turnedL (t':=s.toks) (L:=[b+4,b]) (λc o hb q=>eb c o (λy=>hb (by simp[y])) (λy=>hb (by simp[y])) q) (λc hc=>hf c (by
    have hc':c=b+4∨c=b:=by simpa using hc
    rcases hc' with y |y<;>simp[y]))⟩
 self:=λ_ _ _ _ _ st h=>by
  obtain⟨h1,_⟩:=st
  exact wpAny_pyIter_zip h1 h
def Yl2 (K:Frag)(ta:TA):TI:=λY H R=>ta Y H λvs H1=>∃a1 a2 xs ys,vs=[.ref a1,.ref a2]/\SqT K H1 a1 xs/\SqT K H1 a2 ys/\R (Ypp K a1 a2 xs ys) H1
theorem Yhn (hg:Gl X "zip")(hm:X.mg "zip"=none)(ha:PA X [l,m] ta)(hs:starEach [l,m] X.env=(false,eval l X.env)::starEach [m] X.env:=by rfl)(hp:(backTo pos (starEach [m] X.env)).any (·.1)=false:=by rfl): PI X (.Tuple elts x1 tpos) (.Call (.Name "zip" p) [l,m] [] pos) (Yl2 X.K ta):=by
 intro pins s Y H R I h
 refine Call_ (Xkp I hg hm PyProof.Rows.boot_zip (PyProof.Rows.callWith_type1 (thn (ha pos pins s Y H _ I h) λus s1 ⟨vs,H1,I1,r1,q1⟩=>?_) hs hp))
 obtain⟨a1,a2,xs,ys,e,hq1,hq2,q⟩:=q1
 subst e
 obtain⟨u1,u2,rfl,ru1,ru2⟩:=Yfz r1
 cases ru1
 cases ru2
 obtain⟨its1,rv1,pt1,hz1⟩:=I1.tuple hq1
 obtain⟨its2,rv2,pt2,hz2⟩:=I1.tuple hq2
 refine Ybq pt1 pt2 λh' g1 g2 g3 g4 g5 g7=>?_
 have I2:Inv X pins Y H1 {s1 with heap:=h',toks:=s1.toks}:=I1.kept (t':=s1.toks) g7
 refine wpAny_pyIter_zip (s:={s1 with heap:=h',toks:=s1.toks}) g1 ?_
 refine⟨s1.heap.objs.size+4,_,_,_,H1,rfl,I2,Xx5 a1 a2 s1.heap.objs.size xs ys ⟨pt1.lt,pt2.lt⟩,⟨g1,g2,⟨_,_,g3⟩,g4,g5⟩,λc hc=>?_,q⟩
 have hle:s1.heap.objs.size<=c:=by
  rcases Yn6 hc with y |y |y |y |y<;>(rw[y];first |exact Nat.le_add_right _ _ |exact Nat.le_refl _)
 exact I1.fpOk hle (I1.hok.fresh hle)
theorem Ygv (h:Xjy K a As): Yb4 K (Yl2 K a) (Ymd As):=λF0 H0 F H Y δ P R e w q=>h F0 H0 F H Y δ _ _ e w λds vs F' H' p x r=>by
 split at p
 .rename_i xs ys
  obtain⟨le1,p⟩:=p
  obtain⟨v1,v2,rfl,⟨a1,us1,rfl,h1,h2⟩,⟨a2,us2,rfl,k1,k2⟩⟩:=Xza r
  have hl1:=h2.length
  have hl2:=k2.length
  refine⟨a1,a2,us1,us2,rfl,x.fh.seqT h1,x.fh.seqT k1,q _ _ F' H' p x λF1 H1 s1 s2=>?_⟩
  have hq1:=(s1.trans s2).seqT h1
  have hq2:=(s1.trans s2).seqT k1
  have hlen:((xs.zip ys).map λp=>D.tup [p.1,p.2]).length=xs.length:=by simp;lia
  refine⟨λi hi=>⟨hq1,hq2,by lia,by lia⟩,⟨hq1,by lia⟩,λi x H2 hi y=>?_⟩
  obtain⟨t,y1,y2,rfl,ht,sm,hy1,hy2,ht2⟩:=y
  obtain⟨d1,hd1,rd1⟩:=h2.get' hy1
  obtain⟨d2,hd2,rd2⟩:=k2.get' hy2
  refine⟨.tup [d1,d2],upd F1 t (.tup [y1,y2]),?_,Ext.new s2 ht sm ht2,t,[y1,y2],rfl,.inl (.inl Xay),?_⟩
  .rw [getElem?_map,List.getElem?_zip_eq_some (z:=(d1,d2)) |>.mpr ⟨hd1,hd2⟩]
   rfl
  .exact ⟨_,_,rfl,(rd1.mono s1).mono (Xbj.upd' (s2.free ht)),_,_,rfl,(rd2.mono s1).mono (Xbj.upd' (s2.free ht)),rfl⟩
 .exact p.elim
end
def Ym1 (w:World)(K:Frag)(mg:Str->Option Value)(x:Str)(kds:List (Str×D)):Prop:=
 ∃a es n,mg x=some (.ref a)/\K.lookup a=some ⟨.type "dict",none,.dict es n,#[]⟩/\KeysLit w.params es.toList/\(a==sysModules)=false/\
  ∀k,match kds.lookup k with
   |some d=>∃b,findBy Value.isStrOf es k=some (.ref b)/\∀F,Rep K F d (.ref b)
   |none=>findBy Value.isStrOf es k=none
inductive DEs (K:Frag):List (Str×D)->List DictEntry->Prop
 |nil:DEs K [] []
 |cons {k:Str} {d:D} {hs:Int} {t:Tok} {b:Addr} {kds:List (Str×D)} {es:List DictEntry}:(∀F,Rep K F d (.ref b))->DEs K kds es->DEs K ((k,d)::kds) (⟨hs,.str k t,.ref b⟩::es)
theorem DEs.find {K:Frag}{kds:List (Str×D)}{es:List DictEntry}(r:DEs K kds es)(k:Str):match kds.lookup k with
   |some d=>∃b,(es.find? λe=>Value.isStrOf k e.key).map (·.val)=some (.ref b)/\∀F,Rep K F d (.ref b)
   |none=>(es.find? λe=>Value.isStrOf k e.key).map (·.val)=none:=by
 induction r with
 |nil=>rfl
 | @cons k' d hs t b kds es h r ih=>
  by_cases z:k'=k
  .subst z
   rw[lookup_cons,beq_self_eq_true]
   refine⟨b,?_,h⟩
   rw[List.find?_cons_of_pos (by show (k'==k')=true;exact beq_self_eq_true _)]
   rfl
  .have h1:(k==k')=false:=beq_eq_false_iff_ne.mpr (Ne.symm z)
   have h2:(k'==k)=false:=beq_eq_false_iff_ne.mpr z
   rw[lookup_cons,h1,List.find?_cons_of_neg (by show ¬ (k'==k)=true;rw[h2];exact Bool.false_ne_true)]
   exact ih
theorem Yi5 {w:World}{K:Frag}{mg:Str->Option Value}{x:Str}{kds:List (Str×D)}{a:Addr}{es:List DictEntry}{n:Nat}(e:mg x=some (.ref a))(lk:K.lookup a=some ⟨.type "dict",none,.dict es.toArray n,#[]⟩)
  (kl:KeysLit w.params es) (sm:(a==sysModules)=false) (r:DEs K kds es):Ym1 w K mg x kds:=
 ⟨a,es.toArray,n,e,lk,kl,sm,λk=>by
  have h:=r.find k
  unfold findBy
  rw[List.find?_toArray]
  exact h⟩
def Xya (kds:List (Str×D))(ty:TE):TE:=λY H Q=>ty Y H λy H1=>∃k,y = .str k/\Q (.bl (kds.lookup k).isNone) H1
def Yf5 (K:Frag)(kds:List (Str×D))(ty:TE):TE:=λY H Q=>ty Y H λy H1=>∃k d,y = .str k/\kds.lookup k=some d/\∀v,(∀F,Rep K F d v)->Q v H1
def Ybj (kds:List (Str×D))(E:DE):DE:=λδ P=>E δ λd=>match d with
 | .str k=>P (.bl (kds.lookup k).isNone)
 |_=>False
def Ymo (kds:List (Str×D))(E:DE):DE:=λδ P=>E δ λd=>match d with
 | .str k=>∃d,kds.lookup k=some d/\P d
 |_=>False
section
variable {X:Cx}{K:Frag}{x:Str}{kds:List (Str×D)}{i:Expr}{ty:TE}{pos pos':Pos}
theorem Xzp (hg:Gl X x)(hm:Ym1 X.w X.K X.mg x kds)(hi:PE X i ty)(hd:(x==("__debug__":Str))=false:=by decide): PC X .NotIn i (.Name x pos) (Xya kds ty):=by
 intro pins s Y H Q I h
 obtain⟨a,es,n,e,lk,kl,sm,fnd⟩:=hm
 refine thn (hi pins s Y H _ I h) λiv s1 ⟨y,H1,I1,ry,k,ey,q1⟩=>?_
 subst ey
 refine thn (Xjp (v:=.ref a) hg e rfl hd pins s1 Y H1 (λx H2=>x = .ref a/\Q (.bl (kds.lookup k).isNone) H2) I1 ⟨rfl,q1⟩) λu s2 ⟨x,H2,I2,rx,ex,q2⟩=>?_
 subst ex
 obtain rfl:u=Value.ref a:=rx
 obtain⟨t,rfl⟩:=ry
 refine wpAny_notIn_of (strKind_is X.prog X.w k t) sm (mapOf_K I2.kIn lk kl) ?_
 refine⟨.bl (kds.lookup k).isNone,H2,I2.tok _,?_,q2⟩
 have f:=fnd k
 split at f
 .rename_i d hl
  obtain⟨b,f1,_⟩:=f
  rw[hl]
  rw[f1];rfl
 .rename_i hl
  rw[hl]
  rw[f];rfl
theorem Yhr (hg:Gl X x)(hm:Ym1 X.w X.K X.mg x kds)(hi:PE X i ty)(hs:Yb0 i)(hd:(x==("__debug__":Str))=false:=by decide): PE X (.Subscript (.Name x pos') i pos) (Yf5 X.K kds ty):=by
 intro pins s Y H Q I h
 obtain⟨a,es,n,e,lk,kl,sm,fnd⟩:=hm
 refine Subscript_ (thn (Xjp (v:=.ref a) hg e rfl hd pins s Y H (λx H2=>x = .ref a/\Yf5 X.K kds ty Y H2 Q) I ⟨rfl,h⟩) λu s1 ⟨x,H1,I1,rx,ex,q1⟩=>?_)
 subst ex
 obtain rfl:u=Value.ref a:=rx
 refine thn (hi pins s1 Y H1 _ I1 q1) λiv s2 ⟨y,H2,I2,ry,k,d,ey,hl,q2⟩=>?_
 subst ey
 obtain⟨t,rfl⟩:=ry
 have f:=fnd k
 rw[hl]at f
 obtain⟨b,f1,f2⟩:=f
 have hm:=mapOf_K (prog:=X.prog) I2.kIn lk kl
 exact tail_any hm.typeIs slot_dict_getitem.lookup (wpAny_getItem_of (strKind_is X.prog X.w k t) hm f1 ⟨.ref b,H2,I2.tok _,rfl,q2 _ f2⟩) (hs _ _)
theorem Xy4 (h:Xdi K t E): Xdi K (Xya kds t) (Ybj kds E):=λF0 H0 F H Y δ P Q e w q=>h F0 H0 F H Y δ _ _ e w λd v F' H' p x r=>by
 split at p
 .obtain rfl:v = .str _:=r
  exact⟨_,rfl,q _ _ F' H' p x rfl⟩
 .exact p.elim
theorem Yg0 (h:Xdi K t E): Xdi K (Yf5 K kds t) (Ymo kds E):=λF0 H0 F H Y δ P Q e w q=>h F0 H0 F H Y δ _ _ e w λd v F' H' p x r=>by
 split at p
 .obtain rfl:v = .str _:=r
  obtain⟨d',hl,p⟩:=p
  exact⟨_,d',rfl,hl,λu hu=>q _ _ F' H' p x (hu F')⟩
 .exact p.elim
end
def Yju:List Str->List (Option Nat)->List Str
 |x::N,some _::ix=>x::Yju N ix
 |_::N,none::ix=>Yju N ix
 |_,_=>[]
theorem Xb2.mem:∀{N:List Str} {ix:List (Option Nat)},Xb2 X scope N ix->∀x∈Yju N ix,X.env.kindOf x=some .cell∨X.env.kindOf x=some .free
 | [],[],_,x,hx=>by cases hx
 |y::N,none::ix,h,x,hx=>Xb2.mem (show Xb2 X scope N ix from h) x hx
 |y::N,some i::ix,h,x,hx=>by
  obtain⟨h0,h1⟩:=(show (X.N[i]?=some y/\scope.names.lookup y=some .free/\(X.env.kindOf y=some .cell∨X.env.kindOf y=some .free))/\Xb2 X scope N ix from h)
  rcases mem_cons.mp (show x∈y::Yju N ix from hx) with z |z
  .rw [z];exact h0.2.2
  .exact Xb2.mem h1 x z
 | [],_::_,h,_,_=>h.elim
 |_::_,[],h,_,_=>by cases h
theorem BlkScope.ofCap (cap:Xb2 X sc N ix)(h1:sc.kind = .function)(h2:∀y∈sc.names,y.2≠.cell)(h3:∀y∈sc.names,y.2 = .free->y.1∈Yju N ix)(h4:∀y∈sc.names,y.2 = .local->sc.names.lookup y.1=some .local): BlkScope X.env.scope sc:=
 ⟨h1,h2,λy hy e=>cap.mem y.1 (h3 y hy e),h4⟩
abbrev Ydw:Obj:={cls:=.type "cell",data:=.cell none}
structure Blk1 (outer scope:Scope) (z:Str):Prop where
 kind:scope.kind = .function
 lay:∀n acc,cellsFrom n scope.names acc=(z,n)::acc
 push:∀h,pushCells h scope.names=h.push Ydw
 cell:∀y∈scope.names,y.2 = .cell->y.1=z
 look:scope.names.lookup z=some .cell
 nofr:∀y∈scope.names,y.2 = .free->y.1≠z
 free:∀y∈scope.names,y.2 = .free->outer.names.lookup y.1=some .cell∨outer.names.lookup y.1=some .free
 names:∀y∈scope.names,y.2 = .local->scope.names.lookup y.1=some .local
abbrev Cx.blk1 (X:Cx)(scope:Scope)(z:Str)(N:List Str)(fp:List Addr)(s:Shared)(H:Hp):Cx:=
 {X with N:=N,s₀:=s,H₀:=H,env:=compEnvC scope ((z,s.heap.objs.size+1)::Xe5 scope X.env) s.heap.objs.size X.env,outer:=X.stack,ex:=fp,fn:=λx=>x==z,pn:=[],xe:=λ_ _=>False}
section
variable {M:Model}{A:Around}{E:Value->Shared->Prop}{s:Shared}
theorem Yh6 {Q:Env->Shared->Prop}(S:Blk1 outerS scope z)
  (hQ:Q {scope,locals:=s.heap.objs.size,globals,cells:=(z,s.heap.objs.size+1)::cl,qual,func:=none,code:=outer.code,frame:=outer.frame,builtins:=outer.builtins} {s with heap:=(s.heap.push {cls:=.type "dict",data:=.dict #[]}).push Ydw}):
  wpAny M A (newFunctionEnv scope globals cl [] qual none .none (some outer)) Q E s:=by
 simp only[newFunctionEnv,Option.isSome_some,if_true]
 refine wpAny_bind (wpAny_alloc ?_)
 refine wpAny_bind (wpAny_layCells _ (λname kind cells=>by cases hkc:kind==NameKind.cell<;>simp) _ _ _ _ ?_)
 rw[S.lay,S.push]
 rw[show ({s with heap:=s.heap.push {cls:=.type "dict",data:=.dict #[]}}:Shared).heap.objs.size=s.heap.objs.size+1 from size_push ..]
 refine wpAny_bind ?_
 exact wpAny_pure (wpAny_pure hQ)
end
section
variable {X:Cx}{pins:List (Addr×Obj)}{Y:St}{H:Hp}{s:Shared}{scope:Scope}{N:List Str}{ix:List (Option Nat)}{fp:List Addr}{z:Str}
theorem Xe4 (ok:X.Ok)(hf:∀y∈scope.names,y.2 = .free->X.env.scope.names.lookup y.1=some .cell∨X.env.scope.names.lookup y.1=some .free)(h:(Xe5 scope X.env).lookup x=some c): X.env.cells.lookup x=some c:=by
 rw[Xh7]at h
 split at h
 .rename_i ha
  obtain⟨y,hy,e⟩:=any_eq_true.mp ha
  rw[and_eq_true,beq_iff_eq,beq_iff_eq]at e
  obtain⟨e1,e2⟩:=e
  subst e1
  obtain⟨c',hc'⟩:=ok.has y.1 (hf y hy e2)
  rw[hc']at h ⊢
  exact h
 .cases h
theorem Xuh (h:((z,a)::l).lookup x=some c): (x=z/\c=a)∨(x≠z/\l.lookup x=some c):=by
 rw[lookup_cons]at h
 by_cases q:x=z
 .subst q
  rw[beq_self_eq_true]at h
  exact .inl ⟨rfl,(Option.some.inj h).symm⟩
 .rw [beq_eq_false_iff_ne.mpr q]at h
  exact .inr ⟨q,h⟩
theorem Xvs (h:x≠z): ((z,a)::l).lookup x=l.lookup x:=by
 rw[lookup_cons,beq_eq_false_iff_ne.mpr h]
theorem Inv.blk1Ok (I:Inv X pins Y H s)(S:Blk1 X.env.scope scope z)(hf:∀b∈fp,Xmt X pins H b)(hlt:∀b∈fp,b<s.heap.objs.size): (X.blk1 scope z N fp s H).Ok where
 mod:=I.ok.mod
 kind:=S.kind
 glob:=I.ok.glob
 blt:=I.ok.blt
 above:=Nat.le_refl _
 inj := λx y c h1 h2=>by
  have old:∀{x:Str},(Xe5 scope X.env).lookup x=some c->c<s.heap.objs.size:=λ{x} h=>by
   obtain⟨v,q⟩:=I.cell x c (Xe4 I.ok S.free h)
   exact q.lt
  rcases Xuh h1 with⟨a1,a2⟩ | ⟨a1,a2⟩<;>rcases Xuh h2 with⟨b1,b2⟩ | ⟨b1,b2⟩
  .rw [a1,b1]
  .have q:=old b2;rw[a2]at q;exact absurd (Nat.lt_of_succ_lt q) (lt_irrefl _)
  .have q:=old a2;rw[b2]at q;exact absurd (Nat.lt_of_succ_lt q) (lt_irrefl _)
  .exact I.ok.inj x y c (Xe4 I.ok S.free a2) (Xe4 I.ok S.free b2)
 has := λx hx=>by
  by_cases q:x=z
  .subst q
   exact⟨_,by show List.lookup x ((x,s.heap.objs.size+1)::_)=_;rw[lookup_cons,beq_self_eq_true]⟩
  have hx':(relabel scope X.env).names.lookup x=some .cell∨(relabel scope X.env).names.lookup x=some .free:=hx
  rw[Xdx]at hx'
  cases e:scope.names.lookup x with
  |none=>rw[e]at hx';simp at hx'
  |some k=>
   have hm:=PySem.mem_of_lookup e
   have hk:k = .free:=by
    by_cases hk:k = .free
    .exact hk
    .exfalso
     have hb:(k==NameKind.free)=false:=by simpa using hk
     have hc:k≠.cell:=λy=>q (S.cell _ hm y)
     have e2:(if (k==NameKind.free && X.env.scope.kind == .function && X.env.kindOf x==some .cell)=true then NameKind.cell else k)=k:=if_neg (by rw[hb,Bool.false_and];exact Bool.false_ne_true)
     rw[e,map_some,e2]at hx'
     rcases hx' with z |z
     .exact hc (Option.some.inj z)
     .exact hk (Option.some.inj z)
   subst hk
   obtain⟨c,h1,_⟩:=Xmp I.ok e (S.free _ hm rfl)
   exact⟨c,(Xvs q).trans h1⟩
 cab:=λx c h e=>by
  rcases Xuh e with⟨_,a2⟩ | ⟨a1,_⟩
  .rw [a2];exact le_succ _
  .exact absurd (beq_iff_eq.mp h) a1
 hd:=I.ok.hd
 frames:=I.ok.frames
 stk:=.inl rfl
 exf:=λb hb=>⟨ne_of_lt (hlt b hb),λx c h=>by
  rcases Xuh h with⟨_,a2⟩ | ⟨_,a2⟩
  .intro q;have q2:=hlt b hb;rw[<- q,a2]at q2;exact absurd (Nat.lt_of_succ_lt q2) (lt_irrefl _)
  .exact (hf b hb).2.2.2.2.1 x c (Xe4 I.ok S.free a2)⟩
 bs:=I.bs
 bsz:=le_trans I.ok.bsz I.sz
 noex:=λb o e hb=>by
  rcases (hf b hb).2.2.2.1 with z |z
  .exact I.ok.noex b o e z
  .exact absurd (lt_of_lt_of_le (lt_size e) (le_trans I.ok.bsz z)) (lt_irrefl _)
 exfs:=λb hb h=>by
  rcases mem_cons.mp (I.stkSub b h) with z |z
  .exact (hf b hb).2.1 z
  .exact (hf b hb).2.2.1 z
 funs:=I.stack
 frf:=I.stkFree
theorem Inv.blk1 (I:Inv X pins Y H s)(S:Blk1 X.env.scope scope z)(cap:Xb2 X scope N ix)(hf:∀b∈fp,Xmt X pins H b)(hlt:∀b∈fp,b<s.heap.objs.size)
  (hns:h₁.Ns s.heap.objs.size λ_=>none) (hcl:h₁.IsCell (s.heap.objs.size+1) none) (keep:∀b o,s.heap.get? b=some o->h₁.get? b=some o): Inv (X.blk1 scope z N fp s H) [] (Xma ix Y) H {s with heap:=h₁,toks:=t}:=by
 obtain⟨hl,hcap⟩:=cap.get
 refine⟨I.blk1Ok S hf hlt,rfl,I.bare,Un.kept keep,⟨_,hns,λj x v e1 e2 e3=>?_⟩,λx c e=>?_,I.hok.fresh (Nat.le_refl _),λx c e=>?_,λp hp=>absurd (show p∈([]:List (Addr×Obj)) from hp) (by simp),I.hok.kept keep,by unfold Xma;rw[length_map];exact hl.symm⟩
 .obtain ⟨i,h1,h2⟩:∃i,ix[j]?=some (some i)/\Y[i]?=some (some v):=by
   unfold Xma at e2
   rw[getElem?_map]at e2
   cases q:ix[j]? with
   |none=>rw[q]at e2;cases e2
   |some o=>
    rw[q]at e2
    cases o with
    |none=>simp at e2
    |some i=>
     refine⟨i,rfl,?_⟩
     cases q2:Y[i]? with
     |none=>simp[q2]at e2
     |some o2=>simp[q2]at e2;rw[e2]
  obtain⟨y,n1,n2,n3,n4⟩:=hcap j i h1
  have hxy:x=y:=by rw[e1]at n1;exact Option.some.inj n1
  subst hxy
  have hxz:x≠z:=S.nofr _ (PySem.mem_of_lookup n3) rfl
  obtain⟨m',hn',hl'⟩:=I.loc
  have vis:Vis X.env.scope x:=by rcases n4 with k |k;exact .inr (.inl k);exact .inr (.inr k)
  obtain⟨u,r,l⟩:=hl' i x v n2 h2 vis
  refine⟨u,r,.inr ⟨?_,?_⟩⟩
  .show (relabel scope X.env).names.lookup x=some .cell∨(relabel scope X.env).names.lookup x=some .free
   rw[Xdx,n3]
   by_cases hc:(NameKind.free==NameKind.free && X.env.scope.kind == .function && X.env.kindOf x==some .cell)=true
   .left;simp only[map_some,if_pos hc]
   .right;simp only[map_some,if_neg hc]
  .obtain ⟨c,c1,c2⟩:=Xmp I.ok n3 n4
   refine⟨c,(Xvs hxz).trans c1,?_⟩
   rcases l with⟨hk,_⟩ | ⟨_,c',hc',z⟩
   .rcases n4 with k |k
    .rw [hk]at k;cases k
    .rw [hk]at k;cases k
   .rw [c2]at hc';cases hc'
    obtain⟨ob,ho,hd⟩:=z
    exact⟨ob,keep _ _ ho,hd⟩
 .rcases Xuh e with⟨_,a2⟩ | ⟨_,a2⟩
  .rw [a2];exact⟨_,hcl⟩
  .obtain ⟨v,ob,ho,hd⟩:=I.cell x c (Xe4 I.ok S.free a2)
   exact⟨v,ob,keep _ _ ho,hd⟩
 .rcases Xuh e with⟨_,a2⟩ | ⟨_,a2⟩
  .rw [a2];exact I.hok.fresh (le_succ _)
  .exact I.freeC x c (Xe4 I.ok S.free a2)
theorem Inv.unblk1 (I:Inv X pins Y H s)(hf:∀b∈fp,Xmt X pins H b)(J:Inv (X.blk1 scope z N fp s H) pins' Y' H' s'): Inv X pins Y H' s':=
 I.call' J.os J.base J.hok J.bare λb hb=>⟨(hf b hb).2.2.2.1,(hf b hb).2.1,(hf b hb).2.2.2.2.1,(hf b hb).2.2.2.2.2⟩
end
section
variable {X:Cx}{tg elt iter:Expr}{scope:Scope}{N:List Str}{ix:List (Option Nat)}{wi:TI}{g:TG}{te:TE}{pos:Pos}{z:Str}
theorem Xxt {RR:Value->Addr->Result->Shared->Prop}(hc:X.calm=true)(hi:PI X tg iter wi)(S:Blk1 X.env.scope scope z)(cap:Xb2 X scope N ix)
  (hg:∀fp s H,PG (X.blk1 scope z N fp s H) tg g) (he:∀fp s H,PE (X.blk1 scope z N fp s H) elt te) (I:Inv X pins Y H s) (h:Xoj wi ix g te Y H Q)
  (hRR:∀D C H' s',Inv X pins Y H' s'->Xmt X pins H' C->(∃m,s'.heap.Ns C m)->Q (.ref D) H'->RR (.ref D) C (.ok .next) s'):
  wpAny (model X.prog X.w) X.A (eval iter X.env) (λx s₁=>wpAny (model X.prog X.w) X.A (pyIter x) (λit s₂=>wpAny (model X.prog X.w) X.A (newList []) (λacc s₃=>
   wpAny (model X.prog X.w) X.A (newFunctionEnv scope X.env.globals (Xe5 scope X.env) [] X.env.qual none .none (some X.env)) (λcenv s₄=>
    codeAny (model X.prog X.w) X.A (.compStart (.ListComp elt [⟨tg,iter,[],0⟩] scope pos) 0 it acc {cenv with scope:=relabel scope X.env}) (RR acc cenv.locals) s₄) X.xe s₃) X.xe s₂) X.xe s₁) X.xe s:=by
 refine thn (hi pins s Y H _ I h) λv s1 h1=>thn h1 λitv s2 h2=>?_
 obtain⟨it,fp,tn,J,H2,e,I2,T,st2,f2,R⟩:=h2
 subst e
 refine wpAny_newObj_type (Yh6 S ?_)
 have I3:Inv X pins Y (upd H2 s2.heap.objs.size (.lst [])) {s2 with heap:=s2.heap.push {cls:=.type "list",data:=.seq ([]:List Value).toArray},toks:=s2.toks}:=I2.lnew .nil (zero_le _)
 have hD:H2 s2.heap.objs.size=none:=I2.fresh
 have lt2:∀b∈fp,b<s2.heap.objs.size:=λb hb=>by obtain⟨o,e,_⟩:=T.obj 0 _ st2 b hb;exact lt_size e
 obtain⟨W,⟨m0,w0⟩,turn⟩:=R s2.heap.objs.size hD
 generalize hs3:({s2 with heap:=s2.heap.push {cls:=.type "list",data:=.seq ([]:List Value).toArray},toks:=s2.toks}:Shared)=s3 at I3
 have e3:s3.heap=s2.heap.push {cls:=.type "list",data:=.seq ([]:List Value).toArray}:=by rw[<- hs3]
 have sz3:s3.heap.objs.size=s2.heap.objs.size+1:=by rw[e3,size_push]
 have f3:∀b∈fp,Xmt X pins (upd H2 s2.heap.objs.size (.lst [])) b:=λb hb=>⟨by rw[Xbu (ne_of_lt (lt2 b hb))];exact (f2 b hb).1,(f2 b hb).2⟩
 have lt3:∀b∈fp,b<s3.heap.objs.size:=λb hb=>by rw[sz3];exact Nat.lt_succ_of_lt (lt2 b hb)
 generalize hh1:(s3.heap.push {cls:=.type "dict",data:=.dict #[]}).push Ydw=h₁
 have hns₁:h₁.Ns s3.heap.objs.size λ_=>none:=by
  rw[<- hh1]
  exact (Heap.Ns.new s3.heap (.type "dict")).keeps λb o e=>get?_push_of_some _ e
 have hcl₁:h₁.IsCell (s3.heap.objs.size+1) none:=by
  rw[<- hh1]
  have:=get?_push_size (s3.heap.push {cls:=.type "dict",data:=.dict #[]}) (o:=Ydw) rfl
  rw[size_push]at this
  exact⟨_,this,rfl⟩
 have kp3:∀b o,s3.heap.get? b=some o->h₁.get? b=some o:=λb o e=>by
  rw[<- hh1]
  exact get?_push_of_some _ (get?_push_of_some _ e)
 have J0:=I3.blk1 (t:=s3.toks) S cap f3 lt3 hns₁ hcl₁ kp3
 have keep1:∀b o,s2.heap.get? b=some o->h₁.get? b=some o:=λb o e=>kp3 b o (by rw[e3];exact get?_push_of_some _ e)
 have st1:tn 0 h₁:=T.keep 0 _ _ st2 λb _ o e=>keep1 b o e
 have stat:∀{H':Hp},(∀b∈fp,H' b=none)->∀b∈fp,Xmt (X.blk1 scope z N fp s3 (upd H2 s2.heap.objs.size (.lst []))) [] H' b:=λ{H'} hn b hb=>by
  refine⟨hn b hb,ne_of_lt (lt3 b hb),λz=>?_,.inl hb,λx c e=>?_,λp hp=>absurd (show p∈([]:List (Addr×Obj)) from hp) (by simp)⟩
  .rcases mem_cons.mp (I3.stkSub b z) with y |y
   .exact (f2 b hb).2.1 y
   .exact (f2 b hb).2.2.1 y
  .rcases Xuh e with⟨_,a2⟩ | ⟨_,a2⟩
   .intro q;have q2:=lt3 b hb;rw[<- q,a2]at q2;exact absurd (Nat.lt_of_succ_lt q2) (lt_irrefl _)
   .exact (f2 b hb).2.2.2.2.1 x c (Xe4 I.ok S.free a2)
 have loop:∀s4:Shared,s4={s3 with heap:=h₁,toks:=s3.toks}->
   codeAny (model X.prog X.w) X.A (.compLoop (.ListComp elt [⟨tg,iter,[],0⟩] scope pos) 0 (.ref it) (.ref s2.heap.objs.size) (compEnvC scope ((z,s3.heap.objs.size+1)::Xe5 scope X.env) s3.heap.objs.size X.env)) (RR (.ref s2.heap.objs.size) s3.heap.objs.size) s4:=by
  rintro s4 rfl
  refine Xtb (λn s'=>∃i Y' ys H',Inv (X.blk1 scope z N fp s3 (upd H2 s2.heap.objs.size (.lst []))) [] Y' H' s'/\tn i s'.heap/\(∀b∈fp,H' b=none)/\W i n Y' ys H') ?_ m0 ⟨0,_,[],_,J0,st1,λb hb=>(f3 b hb).1,w0⟩
  rintro n s' ⟨i,Y',ys,H',I',st',fr',w'⟩
  rcases turn i n Y' ys H' w' with⟨stop,fin⟩ | ⟨hy,go,step⟩
  .refine thn (T.done (X.blk1 scope z N fp s3 (upd H2 s2.heap.objs.size (.lst []))) rfl rfl rfl hc i [] s' Y' H' _ I' (stat fr') st' stop) λr s5 ⟨hr,I5⟩=>?_
   subst hr
   obtain⟨m,hn,_⟩:=I5.loc
   exact hRR _ _ H' s5 (I3.unblk1 f3 I5) (I3.fpOk (Nat.le_refl _) I5.free) ⟨m,hn⟩ fin
  .refine thn (T.item (X.blk1 scope z N fp s3 (upd H2 s2.heap.objs.size (.lst []))) rfl rfl rfl hc i [] s' Y' H' _ I' (stat fr') st' go) λr s5 ⟨u,hr,h5⟩=>?_
   subst hr
   refine thn h5 λ_ s6 ⟨x,H6,I6,r6,y6,st6,fr6⟩=>?_
   have I6':=I6.pinned (stat fr6) (T.obj _ _ st6)
   refine thn (hg fp s3 _ _ s6 Y' H6 x u _ I6' r6 (step x H6 y6)) λ_ s7 ⟨Y7,H7,I7,q7⟩=>?_
   refine thn (he fp s3 _ _ s7 Y7 H7 _ I7 q7) λyv s8 ⟨y,H8,I8,r8,hl8,m',hm',w8⟩=>?_
   refine thn (Xcb _ s8 Y7 H8 (.ref s2.heap.objs.size) [y] (.ref s2.heap.objs.size) [yv] (λ_ H9=>H9=upd H8 s2.heap.objs.size (.lst (ys++[y]))) I8 rfl (.cons r8 .nil) ⟨_,ys,y,rfl,rfl,hl8,hy,rfl⟩) λ_ s9 ⟨_,H9,I9,_,e9⟩=>?_
   subst e9
   refine⟨m',hm',i+1,Y7,ys++[y],_,I9.unpinned,T.keep _ _ _ st6 λb hb o e=>(I9.pin (b,o) (mem_append_right _ (mem_append_right _ (Xem hb e)))).1,λb hb=>?_,w8⟩
   obtain⟨o,e,_⟩:=T.obj _ _ st6 b hb
   exact (I9.pin (b,o) (mem_append_right _ (mem_append_right _ (Xem hb e)))).2.1
 have fin:=loop _ rfl
 exact codeAny_compStart_list fin (T.self _ 0 _ _ _ st1 fin)
theorem Ybw (S:Blk1 X.env.scope scope z)(ok:X.Ok): closureFor scope X.env=pure (Xe5 scope X.env):=Xh8 λx hx e=>ok.has x.1 (S.free x hx e)
theorem Yc5 (hc:X.calm=true)(hi:PI X tg iter wi)(S:Blk1 X.env.scope scope z)(cap:Xb2 X scope N ix)(hg:∀fp s H,PG (X.blk1 scope z N fp s H) tg g)(he:∀fp s H,PE (X.blk1 scope z N fp s H) elt te)
  (hs:∀x,foldedSetIterable iter X.env x=pure x:=by intro _;rfl): PE X (.ListComp elt [⟨tg,iter,[],0⟩] scope pos) (Xoj wi ix g te):=by
 intro pins s Y H Q I h
 refine wpAny_comprehension_free rfl hs (Ybw S I.ok) S.kind S.names (Xxt (RR:=λacc C=>compPost (model X.prog X.w) X.A X.xe none (EP X pins Y Q) acc C) hc hi S cap hg he I h λD C H' s' I' f' hn q=>?_)
 obtain⟨m,hn⟩:=hn
 exact⟨m,hn,λh' hs'=>⟨.ref D,H',I'.frameGone f' hs',rfl,q⟩⟩
theorem Yc4 (hc:X.calm=true)(hi:PI X tg iter wi)(cap:Xb2 X scope N ix)(h1:scope.kind = .function)(h2:∀y∈scope.names,y.2≠.cell)(h3:∀y∈scope.names,y.2 = .free->y.1∈Yju N ix)(h4:∀y∈scope.names,y.2 = .local->scope.names.lookup y.1=some .local)
  (hg:∀fp s H,PG (X.blk scope N fp s H) tg g) (he:∀fp s H,PE (X.blk scope N fp s H) elt te)
  (hs:∀x,foldedSetIterable iter X.env x=pure x:=by intro _;rfl): PE X (.ListComp elt [⟨tg,iter,[],0⟩] scope pos) (Xoj wi ix g te):=Xd6 hc hi (BlkScope.ofCap cap h1 h2 h3 h4) cap hg he hs
end
section
variable {X:Cx}
end
section
variable {K:Frag}
end
def g1 {α:Type}(l r:List α):List α->List α->List α
 | [a],[b]=>a::(l++b::r)
 |_,_=>[]
section
variable {P:Program}{w:World}{K:Frag}{mg:Str->Option Value}{base:Heap}{x:Str}{k:Nat}{ps:List Str}{sp:Sp}{d0 d1:V}
end
section
variable {X:Cx}{x:Str}{k:Nat}{ps:List Str}{sp:Sp}{d0 d1:V}{e c:Expr}{t tk:TA}{p pos kp:Pos}{nm:Str}
end
section
variable {K:Frag}
end
section
variable {K:Frag}
end
section
variable {K:Frag}{F0 H0 F H F' H':Hp}{Y:St}{δ:Dst}{A:Nat->List Addr}{i:Nat}
end
section
variable {K:Frag}{c f m c2:Str}{ns ns2:List Str}{i j:Nat}
end
end L2
namespace PySem
section
variable {prog:Program}{w:World}{A:Around}{R:Result->Shared->Prop}{I:Addr}{fp wr:List Addr}{G:Array GenState->Array GenState->Prop}{n:Nat}{P:Nat->Value->Prop}{St:Nat->Shared->Prop}
end
section
variable {prog:Program}{w:World}{A:Around}{E:Value->Shared->Prop}{s:Shared}
end
end PySem
namespace L2
open PySem PySem.Spec PyProof.Rows
section
variable {X:Cx}
def rStrip:V->List V->Hp->VK->Prop:=λx vs H Q=>∃a b,x = .str a/\vs=[.str b]/\a.length<=sizeLine/\Q (.str (Txt.stripChars a b)) H
theorem Yde:MtR X "str.strip" rStrip:=by
 intro pins s Y H x xs v us Q I rx r h
 obtain⟨a,b,rfl,rfl,hz,q⟩:=h
 obtain⟨t,rfl⟩:=rx
 obtain⟨u,rfl,ru⟩:=Xhg r
 obtain⟨t',rfl⟩:=ru
 exact PySem.W.KXw.stripChars rfl hz λt'' k=>⟨.str _,H,I.tok k,⟨_,rfl⟩,q⟩
end
def Yfi (E Ec:DE):DE:=λδ P=>E δ λd=>match d with
 | .str x=>Ec δ λl=>match l with
  | .str y=>x.length<=1000000/\P (.str (Txt.stripChars x y))
  |_=>False
 |_=>False
section
variable {K:Frag}{c f:Str}{ns:List Str}{i j:Nat}
theorem Ycn (h:Xe6 K te E)(ha:Xe6 K ta El): Xdi K (tBM K "str" rStrip te (Xfr ta Xoi)) (Yfi E El):=λF0 H0 F H Y δ P Q e w q=>h F0 H0 F H Y δ _ _ e w λd v F1 H1 w1 x1 r1=>by
 split at w1
 .rename_i x
  cases (show v=V.str x from r1)
  refine⟨rfl,ha F0 H0 F1 H1 Y δ _ _ (e.on x1) w1 λl u F2 H2 w2 x2 r2=>?_⟩
  split at w2
  .rename_i y
   cases (show u=V.str y from r2)
   exact⟨x,y,rfl,rfl,Xd0 w2.1,q _ _ F2 H2 w2.2 (x1.trans x2) rfl⟩
  .exact w2.elim
 .exact w1.elim
end
end L2
namespace PySem.W
open PySem PySem.Spec PySem.Calls PyProof.Rows Builtin Builtin.ObjectAttr Builtin.Getset_descriptor
section
variable {prog:Program}{w:World}{A:Around}{E:Value->Shared->Prop}{s:Shared}{K:Frag}{x D:Addr}{ox:Obj}
theorem Yba {M:Model}{h:Heap}{a g:Value}{name:Str}(X:K.In h)(ha:findIn K (.ref D) name=some (some a))(hn:specialIn K a "__get__"=some (some g))(htk:takesIn K a=some true):Looks M h (Builtin.ObjectAttr.find (.ref x) (.ref D) name) (.bind g a):=
 (looks_findIn X ha).andThen ((looks_specialIn X hn).andThen ((show Looks M h (Builtin.ObjectAttr.dataDescriptor? (some a) (some g)) (some (g,a)) from (looks_takesIn X htk).andThen .now).andThen (Looks.tag .now)))
theorem Ybo {R:Result->Shared->Prop}{tp:Value}(X:K.In s.heap)(L0:Looks (model prog w) s.heap (typeOf (.ref x)) (.ref D))(hm:mroIn K D (.type "object")=some true)
  (h:R (.ok (.ret (.ref D))) s):codeAny (model prog w) A (.call (.builtin "getset_descriptor.__get__") ⟨[.builtin "object.__class__",.ref x,tp],[]⟩) R s:=by
 have L1:=looks_mroIn (M:=model prog w) X hm
 refine codeAny_call_builtin KF.slot_gs.plain KF.entry_gs (KF.slot_gs.check _ _ _ _ _ _ _ _ KF.type_class (KF.args_gs _ _ _) ?_)
 unfold Builtin.«getset_descriptor.__get__» descrGet
 refine wpAny_bind (wpAny_pure ?_)
 unfold descrGetter descrCheckInstance descrNameAndClass isInstance
 simp only[KF.owner_class]
 repeat lk
 refine⟨Code.quiet_builtin _ (by decide +kernel),codeAny_builtin KF.entry_class ?_⟩
 repeat lk
 exact h
theorem Ybc {Q:Option Value->Shared->Prop}(hga:findIn K (.ref D) "__getattribute__"=some (some (.builtin "BaseException.__getattribute__")))(hgg:findIn K (.ref D) "__getattr__"=some none)
  (hb:subIn K (.ref D) (.type "BaseException")=some true) (ha:findIn K (.ref D) "__class__"=some (some (.builtin "object.__class__")))
  (hn:specialIn K (.builtin "object.__class__") "__get__"=some (some (.builtin "getset_descriptor.__get__"))) (htk:takesIn K (.builtin "object.__class__")=some true) (hm:mroIn K D (.type "object")=some true)
  (X:K.In s.heap) (L0:Looks (model prog w) s.heap (typeOf (.ref x)) (.ref D)) (h:Q (some (.ref D)) {s with toks:=s.toks+1}):wpAny (model prog w) A (getAttr? (.ref x) "__class__") Q E s:=by
 obtain⟨hh,g,d,t,os⟩:=s
 have L1:=looks_findIn (M:=model prog w) X hga
 have L2:=looks_findIn (M:=model prog w) X hgg
 have L3:=Yba (M:=model prog w) (x:=x) X ha hn htk
 have L4:=looks_subIn (M:=model prog w) X hb
 refine wpAny_bind (wpAny_mkText (wpAny_bind (wpAny_attempt (wpAny_holding (wpAny_bind (L0.at (wpAny_bind (L1.at ?_))))))))
 refine wpAny_bind (L2.at ?_)
 have key:wpAny (model prog w) A (callGetattribute (Value.ref x) (Value.str (Str.ofString "__class__") t) (Value.builtin "BaseException.__getattribute__") false) (λv s'=>v = .ref D/\s'=⟨hh,g,d,t+1,os⟩) (λ_ _=>False) ⟨hh,g,d,t+1,os⟩:=by
  show wpAny _ _ (bindSpecial (Value.builtin "BaseException.__getattribute__") (.ref x) >>= _) _ _ _
  refine wpAny_call (codeAny_call_builtin PySem.F.excAttr_ValueError.ga.plain PySem.F.entry_bexc_ga ?_)
  have hk:builtinKind "BaseException.__getattribute__"=some .slot:=by decide +kernel
  have hsplit:splitId "BaseException.__getattribute__"=some ("BaseException","__getattribute__"):=by decide +kernel
  have har:=PySem.F.args_bexc_ga (.ref x) (.str (Str.ofString "__class__") t)
  have LI:Looks (model prog w) hh (isInstance (.ref x) (.type "BaseException")) true:=L0.andThen L4
  refine wpAny_bind (LI.at ?_)
  have hsg:wpAny (model prog w) A.in1 (match Manifest.signature? "BaseException.__getattribute__" with
     |some sig=>Bind.checkArgs "BaseException.__getattribute__" sig {pos:=[Value.ref x,Value.str (Str.ofString "__class__") t]}
     |x=>pure ()) (λ_ s'=>s'=⟨hh,g,d,t+1,os⟩) (λ_ _=>False) ⟨hh,g,d,t+1,os⟩:=by
   cases hsig:Manifest.signature? "BaseException.__getattribute__" with
   |none=>exact wpAny_pure rfl
   |some sig=>
    simp only[argsOk,hsig]at har
    show wpAny _ _ (Bind.checkArgs "BaseException.__getattribute__" sig _) _ _ _
    rw[har]
    exact wpAny_pure rfl
  refine wpAny_mono hsg (λ_ s' e=>?_) (λ_ _ z=>z)
  subst e
  repeat (any_goals (first |assumption | (refine wpAny_bind (L0.at ?_)) | (refine wpAny_bind (L3.at ?_)) |wp_step))
  exact Ybo (s:=⟨hh,g,d,t+1,os⟩) X L0 hm (wpAny_pure ⟨rfl,rfl⟩)
 refine wpAny_bind (wpAny_attempt (wpAny_holding (wpAny_mono key (λv s' z=>?_) λ_ _ z=>z.elim)))
 obtain⟨rfl,rfl⟩:=z
 exact handed_on rfl (wpAny_pure h)
structure ExcK (K:Frag) (D:Addr):Prop where
 ga:findIn K (.ref D) "__getattribute__"=some (some (.builtin "BaseException.__getattribute__"))
 gg:findIn K (.ref D) "__getattr__"=some none
 cls:hasDictIn K D=true
 sub:subIn K (.ref D) (.type "BaseException")=some true
 attr:findIn K (.ref D) "__class__"=some (some (.builtin "object.__class__"))
 get:specialIn K (.builtin "object.__class__") "__get__"=some (some (.builtin "getset_descriptor.__get__"))
 takes:takesIn K (.builtin "object.__class__")=some true
 mro:mroIn K D (.type "object")=some true
theorem kitx_exc (Z:ExcK K D):KitX K (.ref x) (.ref D) (λh=>∃o,h.get? x=some o/\o.cls = .ref D) where
 ty:=λ_ _ _ ⟨o,h1,h2⟩=>h2▸(Looks.ld h1).andThen .now
 it:=λ_ _ X _=>by
  obtain⟨cdD,hcD,_⟩:=any_some Z.cls
  unfold clsIn at hcD
  split at hcD
  .rename_i c' d' cd' sl' ho
   intro A' Q' E' s' k q
   exact wpAny_bind (wpAny_loadPart (k _ _ (X _ _ ho)) (wpAny_pure q))
  .cases hcD
 ne:=λh tp dd its n sl X htp=>by
  obtain⟨cdD,hcD,_⟩:=any_some Z.cls
  refine Bool.eq_false_iff.mpr λq=>?_
  have e:D=tp:=Value.ref.inj (beq_iff_eq.mp q)
  subst e
  unfold clsIn at hcD
  split at hcD
  .rename_i c' d' cd' sl' ho
   have z:=(X _ _ ho).symm.trans htp
   cases z
  .cases hcD
 ca:=λX ⟨o,h1,h2⟩ k=>Ybc Z.ga Z.gg Z.sub Z.attr Z.get Z.takes Z.mro X (h2▸(Looks.ld h1).andThen .now) k
end
end PySem.W
namespace L2
open PySem PySem.Spec PyProof.Rows PyProof.V PySem.W
def Yj1 (K:Frag)(W:Addr)(ni:Nat)(sp:Sp)(t:TA)(th:TS):TS:=λD Y H=>t Y H λvs H1=>sp vs H1 (λ_ H2=>D.nx Y H2) λcls _ H2=>∃C,cls = .ref C/\exmOne K (.ref C) (.ref W)=some true/\
 ∀a,H2 a=none->th {nx:=λY' H'=>D.nx (Y'.set ni none) H',rt:=λ_ _=>False} (Y.set ni (some (.ref a))) (upd H2 a (.ext (Xuq a (.ref C))))
section
variable {X:Cx}
theorem Yhj
  (hst:X.stack=X.env::X.outer) (hfl:X.env.frame=some X.env.locals) (hxe:∀e s',¬ X.xe e s') (C:CalX X.prog X.w X.K X.mg X.base g k ps sp) (hr:Room k X.A) (hg:Gl X g) (ha:PA X (e::es) t)
  (hgw:Gl X wx) (hmw:X.mg wx=some (.ref W)) (hN:X.N.Nodup) (hi:X.N[ni]?=some n) (hloc:X.env.scope.names.lookup n=some .local) (hnl:X.env.kindOf n=some .local) (hth:∀a,PSs (X.hdl a) (b₀::suite) th)
  (hdb:(g==("__debug__":Str))=false:=by decide) (hdw:(wx==("__debug__":Str))=false:=by decide) (he:starEach (e::es) X.env=(false,eval e X.env)::starEach es X.env:=by rfl) (hpl:(backTo cpos (starEach es X.env)).any (·.1)=false:=by rfl)
  (hsw:swapsWith (.Call (.Name g p) (e::es) [] cpos) none epos.line X.env=pure false:=by rfl):
  PS X (.Try [.Expr (.Call (.Name g p) (e::es) [] cpos) epos] [.ExceptHandler (some (.Name wx np)) (some n) (b₀::suite) hpos] [] [] tpos) (Yj1 X.K W ni sp t th):=by
 intro pins s Y H D I h
 obtain⟨f,fd,F,hm,hk,hb⟩:=C.ex
 refine wpAny_Try_except ?_
 refine wpAny_execs_cons (wpAny_Expr_any (wpAny_Call_Name_kw (Xh3 I hg hm ?_ hdb)) I.quiet hsw)
 refine callWith_K I.ok.mod.kin hk (wpAny_mono (ha cpos pins s Y H _ I h) (λus s1 ⟨vs,H1,I1,r,q⟩=>⟨I1.kIn,?_⟩) λe s' z=>absurd z (hxe e s')) he hpl
 have hl:(us++[]).length=ps.length:=by rw[append_nil,<- r.length];exact F.len _ _ _ _ q
 have hbt:=hb s1 us I1.kIn hl
 rw[append_nil]at hbt
 refine wpAny_call (codeAny_mono (F.run X.A X.stack s1 H1 ⟨us,[]⟩ us vs _ _ hr I1.env0 hbt r q) λres s' hq=>?_)
 cases res with
 |ok fl=>
  cases fl with
  |ret u=>
   obtain⟨v,H',I',r',z⟩:=I1.after hq
   exact wpAny_execs_nil (wpAny_execs_nil ⟨Y,H',I',z⟩)
  |_=>exact False.elim hq
 |error ev=>
  obtain⟨a,C1,a0,B,H',rfl,⟨C2,hCe,hex,hth'⟩,fl,agree,un,hok,bare,hos,hna⟩:=hq
  cases hCe
  have hfr:X.A.frames=some (X.env::X.outer):=by rw[<- hst];exact I.ok.frames
  have fl0:=fl
  rw[hst]at fl
  refine wpAny_looks_onW hfr hfl fl λh4 held4 sm4=>?_
  refine wpAny_landsW held4 λh5 fl5 sm5=>?_
  have sm45:=sm4.trans sm5
  have fl5':Heap.FlyingW B X.stack a (.ref C1) a0 h5:=by rw[hst];exact fl5
  have I5:=(I1.caught fl0 agree un hok bare hos hna fl5' sm45).hdl a
  refine wpAny_handleBy_cons (codeAny_handlers_test (Xh3 (X:=X.hdl a) I5 hgw hmw ?_ hdw)) (by intro q;cases q)
  have LT:Looks (model X.prog X.w) h5 (typeOf (.ref a)) (.ref C1):=by
   obtain⟨ob,hob,hc⟩:=fl5.there
   rw[<- hc]
   exact (Looks.ld hob).andThen .now
  refine (PySem.W.exm_one (M:=model X.prog X.w) I5.kIn LT hex).here ?_
  refine codeAny_handlers_suite_as ?_
  refine lands_againW fl5 λh6 fl6 sm6=>?_
  have fl6':Heap.FlyingW B X.stack a (.ref C1) a0 h6:=by rw[hst];exact fl6
  have I6:=(I1.caught fl0 agree un hok bare hos hna fl6' (sm45.trans sm6)).hdl a
  refine Xmb (X:=X.hdl a) I6 hN hi (.inl hloc) (v:=.ref a) rfl (λs7 I7=>?_) (.inr hloc)
  refine wpAny_mono (hth a pins s7 _ _ _ I7 (hth' a hna)) (λfw s8 q8=>?_) (λe s8 z=>z.elim)
  cases fw with
  |next=>
   obtain⟨Y',Hn,I8,q⟩:=q8
   have I8':Inv X pins Y' Hn s8:=I8.unhdl I.ok
   obtain⟨m,hn,hlo⟩:=id I8'.loc
   refine wpAny_nameGoes_keeps hnl hn (by rw[I.ok.kind];rfl) λh9 v9 hn9 sb9=>?_
   exact⟨Y'.set ni none,Hn,I8'.goes hN hi hlo hn9 sb9,q⟩
  |ret u=>obtain⟨v,Y',Hn,I8,_,z⟩:=q8;exact z.elim
  |brk=>obtain⟨Y',Hn,I8,z⟩:=q8;exact False.elim z
  |cont=>obtain⟨Y',Hn,I8,z⟩:=q8;exact False.elim z
end
abbrev Xwh:=List D->(OV->Prop)->(Str->Prop)->Prop
def spX (K:Frag)(n:Nat)(sp:Xwh):Sp:=λvs H Q E=>vs.length=n/\∃F ds Pr Xc,Xbj F H/\Xb1 K F ds vs/\sp ds Pr Xc/\(∀r v F' H',Pr r->Ext F H F' H'->Xlg K H F' H' r v->Q v H')/\
 ∀c C F' H',Xc c->nsIn K mainGlobals c=some (some (.ref C))->Ext F H F' H'->E (.ref C) none H'
def Xxw (K:Frag)(F0 H0:Hp)(t:TS)(T:DS):Prop:=∀F H Y δ De En,Xek K F0 H0 F H Y δ->Lk K F0 H0 De En->T De δ->t En Y H
section
variable {K:Frag}{F0 H0:Hp}{t u:TS}{T U:DS}
theorem Xc3.x (h:Xc3 K t T): Xxw K F0 H0 t T:=λF H Y δ De En=>h F0 H0 F H Y δ De En
theorem Xev (h:Xxw K F0 H0 t T)(g:Xxw K F0 H0 u U): Xxw K F0 H0 (Ynf t u) (Ym4 T U):=λF H Y δ De E e l w=>
 h F H Y δ {De with nx:=U De} _ e ⟨λF1 H1 Y1 δ1 e1 w1=>g F1 H1 Y1 δ1 De E e1 l w1,l.bk,l.ct,l.rt⟩ w
theorem Xwy (h:Xuv K c C)(ht:Xxw K F0 H0 t T)(hu:Xxw K F0 H0 u U): Xxw K F0 H0 (Yng c t u) (sIf C T U):=λF H Y δ De En e l w=>h F0 H0 F H Y δ _ _ e w λb F' H' p x=>by
 cases b with
 |true=>exact Yfc (ht F' H' Y δ De En (e.on x) l p)
 |false=>exact Yfd rfl (hu F' H' Y δ De En (e.on x) l p)
def Yej (X:Prop)(Em:DE):DS:=λ_ δ=>Em δ λ_=>X
theorem Xik {c:Str}{C:Addr}{tm:TE}{Em:DE}{E:XK}{Xc:Str->Prop}(hC:nsIn K mainGlobals c=some (some (.ref C)))(hx:∀c C F' H',Xc c->nsIn K mainGlobals c=some (some (.ref C))->Ext F0 H0 F' H'->E (.ref C) none H')(h:Xe6 K tm Em):
  Xxw K F0 H0 (Yea tm λH'=>E (.ref C) none H') (Yej (Xc c) Em):=λF H Y δ De En e l w=>
 h F0 H0 F H Y δ _ _ e w λd v F' H' p x r=>⟨by rw[length_singleton];decide,hx c C F' H' p hC (Xek.ext (e.on x))⟩
end
theorem Yld {K:Frag}{mg:Str->Option Value}{base:Heap}{c:Str}{C:Addr}(X:K.In base)(G:base.Ns mainGlobals mg)(e:nsIn K mainGlobals c=some (some (.ref C)))
  (q:excIn K C [.type "ValueError",.type "Exception",.type "BaseException",.type "object"] "ValueError.__new__"=true):OwnCls c C [.type "ValueError",.type "Exception",.type "BaseException",.type "object"] "ValueError.__new__" mg base:=by
 refine⟨mg_of X G e,?_⟩
 unfold excIn at q
 split at q
 .rename_i dd cd sl ho
  split at q
  .rename_i C' bm k0 k1 k2 k3 n k5 hm hs
   simp only[and_eq_true,beq_iff_eq,not_eq_true']at q
   obtain⟨⟨⟨⟨⟨rfl,rfl⟩,hdel⟩,ht⟩,hok⟩,hni⟩:=q
   obtain⟨nm,bs,mro,ns,qn,hd,sn,sub,ab,col,del⟩:=cd
   subst hm hdel
   have hsl:sl=#[k0,k1,k2,k3,some (.builtin "ValueError.__new__"),k5]:=by
    obtain⟨l⟩:=sl
    simp only at hs
    rw[hs]
   subst hsl
   exact⟨bm,ns,nm,qn,bs,hd,sn,sub,ab,col,dd,k0,k1,k2,k3,k5,_,X _ _ ho,.of_isNs (PySem.W.isNs_of_in X hok),PySem.W.nsMap_none_of_in X hok hni,PySem.W.tail_of_in X ht⟩
  .cases q
 .cases q
section
variable {P:Program}{w:World}{K:Frag}{mg:Str->Option Value}{base:Heap}{N:List Str}{qual:Str}{scope:Scope}{f:Addr}{cd:Value}{A:Around}{outer:List Env}{s:Shared}{H:Hp}{E:XK}
theorem CalXV.of {x:Str}{st:Stmt}{fd:FuncData}{ps:List Str}{k n:Nat}{sp:Xwh}(Df:DefAt K mg x st f fd)(S:FnScope N ps (Xae st))
  (hb:∀(kV doc pm:Value) (an:Option Addr) (cdv ct:Value) (us:List Value),us.length=ps.length->bindArgs (fnOf x x (Xb5 st) (Xbi st) (Xae st) .none kV doc pm an cdv ct) ⟨us,[]⟩=pure (ps.zip us)) (hn:n=ps.length)
  (hbody:∀(cdv:Value) (A:Around) (outer:List Env) (s:Shared) (H:Hp) (E:XK),Room k (A.deeper (envOfC x (Xae st) s.heap.objs.size f cdv))->∀(F:Hp) (Xc:Str->Prop),(∀c C F' H',Xc c->nsIn K mainGlobals c=some (some (.ref C))->Ext F H F' H'->E (.ref C) none H')->
   ∃t T,PSs (Xjs (CXE P w) P w K mg base N x (Xae st) f cdv A outer s H E) (Xbi st) t/\Xxw K F H t T/\∀ds Pr,sp ds Pr Xc->T {nx:=λ_=>Pr (.fz .non),rt:=Pr} (Xeo N ds)):CalX P w K mg base x (k+1) ps (spX K n sp):=by
 obtain⟨oc,od,kV,doc,pm,an,cdv,ct,osl,rfl,lk,hcd⟩:=Df.fn.ex
 refine⟨f,_,?_,Df.here,Df.fn.kp,Df.fn.binds hb⟩
 refine Yi1 lk hcd S (λvs H Q E h=>by rw[<- hn];exact h.1) λA outer s H vs Q E hr h=>?_
 obtain⟨_,F,ds,Pr,Xc,hs,hr',hsp,hq,hE⟩:=h
 obtain⟨t,T,h1,h2,h3⟩:=hbody cdv A outer s H E hr F Xc hE
 refine⟨t,h1,h2 F H (Xd3 N vs) (Xeo N ds) {nx:=λ_=>Pr (.fz .non),rt:=Pr} _ ⟨_,Xhi hs hr'⟩ ⟨λF' H' Y δ e p=>?_,λ_ _ _ _ _ z=>z.elim,λ_ _ _ _ _ z=>z.elim,λF' H' r v x n p=>hq r v F' H' p x n⟩ (h3 ds Pr hsp)⟩
 exact hq _ _ F' H' p e.ext (.fz rfl)
theorem CalX.cal (C:CalX P w K mg base x k ps (spX K n sp)): Cal P w K mg base x k ps (spV K n λds Pr=>sp ds Pr λ_=>False):=by
 obtain⟨f,fd,F,h1,h2,h3⟩:=C.ex
 refine⟨f,fd,⟨λvs H Q E h=>?_,λA outer s H args us vs Q E hr he hb hv hsp=>?_⟩,h1,h2,h3⟩
 .obtain ⟨hl,F',ds,Pr,hs,hr,hsp,hq⟩:=h
  exact F.len vs H Q (λ_ _ _=>False) ⟨hl,F',ds,Pr,_,hs,hr,hsp,hq,λ_ _ _ _ z=>z.elim⟩
 .obtain ⟨hl,F',ds,Pr,hs,hr',hsp,hq⟩:=hsp
  refine codeAny_mono (F.run A outer s H args us vs Q (λ_ _ _=>False) hr he hb hv ⟨hl,F',ds,Pr,_,hs,hr',hsp,hq,λ_ _ _ _ z=>z.elim⟩) λres s' hq=>?_
  cases res with
  |ok fl=>cases fl<;>exact hq
  |error e=>
   obtain⟨a,C1,a0,B,H',rfl,z,_⟩:=hq
   exact z.elim
end
def Ykg (ni n:Nat)(sp:Xwh)(cs:List Str)(As:DA)(Th:DS):DS:=λDe δ=>As δ λds=>ds.length=n/\sp ds (λ_=>De.nx δ) λc=>c∈cs/\Th {nx:=λδ'=>De.nx (δ'.set ni none),rt:=λ_=>False} (δ.set ni (some (.own (.fz (.exc c)))))
section
variable {K:Frag}{F0 H0 F H:Hp}{Y:St}{δ:Dst}{A:Nat->List Addr}
theorem ER.clr (e:ER K F0 H0 F H Y δ A)(i:Nat): ER K F0 H0 F H (Y.set i none) (δ.set i none) (λj=>if j=i then [] else A j) where
 len:=by simp[e.len]
 ext:=e.ext
 own := λj t hj=>by
  by_cases z:j=i
  .subst z
   rw[getElem?_set]at hj
   split at hj
   .split at hj<;>cases hj
   .cases (by assumption:¬ j=j) rfl
  .rw [getElem?_set_ne (Ne.symm z)]at hj
   obtain⟨v,h1,h2⟩:=e.own j t hj
   exact⟨v,by rw[getElem?_set_ne (Ne.symm z)];exact h1,by rw[if_neg z];exact h2⟩
 bw:=λj d hj=>by
  by_cases z:j=i
  .subst z
   rw[getElem?_set]at hj
   split at hj
   .split at hj<;>cases hj
   .cases (by assumption:¬ j=j) rfl
  .rw [getElem?_set_ne (Ne.symm z)]at hj
   obtain⟨v,h1,h2⟩:=e.bw j d hj
   exact⟨v,by rw[getElem?_set_ne (Ne.symm z)];exact h1,h2⟩
 nod:=λj=>by
  split
  .exact nodup_nil
  .exact e.nod j
 dis := λj k a hjk h1 h2=>by
  split at h1
  .cases h1
  .split at h2
   .cases h2
   .exact e.dis j k a hjk h1 h2
 new:=λj a ha=>by
  split at ha
  .cases ha
  .exact e.new j a ha
theorem Ygl (hW:∀c∈cs,∀C,nsIn K mainGlobals c=some (some (.ref C))->exmOne K (.ref C) (.ref W)=some true)(ha:Xjy K a As)(hth:Xc3 K th Th):
  Xc3 K (Yj1 K W ni (spX K n sp) a th) (Ykg ni n sp cs As Th):=λF0 H0 F H Y δ De En e l w=>ha F0 H0 F H Y δ _ _ e w λds vs F1 H1 w1 x1 r1=>by
 have e1:=e.on x1
 refine⟨by rw[<- r1.length];exact w1.1,F1,ds,_,_,x1.fh,r1,w1.2,λr v F' H' p x' r'=>l.nx F' H' Y δ (e1.on x') p,λc C F' H' p hC x'=>?_⟩
 obtain⟨hc,p⟩:=p
 refine⟨C,rfl,hW c hc C hC,λa ha=>?_⟩
 have x2:Ext F' H' (upd F' a (.ext (Xuq a (.ref C)))) (upd H' a (.ext (Xuq a (.ref C)))):=Ext.new x'.fh ha (Xbj.new ha) Xay
 have e2:=(e1.on x').put x2 ni (r:=.fz (.exc c)) (v:=.ref a) (.fz ⟨a,C,rfl,hC,Xay⟩)
 refine hth F0 H0 _ _ _ _ {nx:=λδ'=>De.nx (δ'.set ni none),rt:=λ_=>False} _ e2 ⟨λF3 H3 Y3 δ3 e3 q3=>?_,λ_ _ _ _ _ z=>z.elim,λ_ _ _ _ _ z=>z.elim,λ_ _ _ _ _ _ z=>z.elim⟩ p
 obtain⟨A3,e3⟩:=e3
 exact l.nx F3 H3 _ _ ⟨_,e3.clr ni⟩ q3
end
structure ExcV (K:Frag) (c:Str) (xs:List (Str×Bool)) (ts:List (String×Bool)):Prop where
 ex:∃C,nsIn K mainGlobals c=some (some (.ref C))/\PySem.W.ExcK K C/\(∀y∈xs,∃D,nsIn K mainGlobals y.1=some (some (.ref D))/\kitOne K (.ref C) (.ref D)=some y.2)/\∀y∈ts,kitOne K (.ref C) (.type y.1)=some y.2
def Yo1 (K:Frag):List V->Hp->VK->Prop:=λvs H Q=>∃a C v b,vs=[.ref a,v]/\H a=some (.ext (Xuq a (.ref C)))/\PySem.W.ExcK K C/\((∃D,v = .ref D/\kitOne K (.ref C) (.ref D)=some b)∨∃t,v = .ty t/\kitOne K (.ref C) (.type t)=some b)/\Q (.bl b) H
theorem Xdy:Xhb X (.builtin "isinstance") (Yo1 X.K):=by
 intro pins s Y H vs us Q I r h
 obtain⟨a,C,v,b,rfl,ha,Z,hv,q⟩:=h
 obtain⟨u,u',rfl,r1,r2⟩:=Yfz r
 cases r1
 have fin:∀tk,EP X pins Y Q (.bool b) {s with toks:=tk}:=λtk=>⟨.bl b,H,I.tok tk,rfl,q⟩
 have hφ:=(I.hok a _ ha).1
 rcases hv with⟨D,rfl,e⟩ | ⟨t,rfl,e⟩
 .cases r2
  exact kia_one (PySem.W.kitx_exc Z) I.kIn hφ e (λz=>nomatch z) fin
 .cases r2
  exact kia_one (PySem.W.kitx_exc Z) I.kIn hφ e (λz=>nomatch z) fin
def Yn3 (c:Str)(xs:List (Str×Bool))(ts:List (String×Bool)):List D->(D->Prop)->Prop:=λds P=>match ds with
 | [.exc c',.fn x]=>c'=c/\∃b,(x,b)∈xs/\P (.bl b)
 | [.exc c',.ty t]=>c'=c/\∃b,(t,b)∈ts/\P (.bl b)
 |_=>False
theorem Xja {K:Frag}{c:Str}{xs:List (Str×Bool)}{ts:List (String×Bool)}(EV:ExcV K c xs ts):CbS K (Yo1 K) (Yn3 c xs ts):=λF H ds vs P Q s rs w q=>by
 obtain⟨C,hC,Z,h1,h2⟩:=EV.ex
 unfold Yn3 at w
 split at w
 .obtain ⟨rfl,b,hb,w⟩:=w
  obtain⟨v,u,rfl,r1,r2⟩:=Xza rs
  obtain⟨a,C',rfl,hC',ha⟩:=r1
  rw[hC]at hC'
  cases hC'
  obtain⟨f,rfl,hf⟩:=r2
  obtain⟨D,hD,hk⟩:=h1 _ hb
  rw[hf]at hD
  cases hD
  exact⟨a,C,_,b,rfl,ha,Z,.inl ⟨_,rfl,hk⟩,q _ _ F H w (Ext.refl s) rfl⟩
 .obtain ⟨rfl,b,hb,w⟩:=w
  obtain⟨v,u,rfl,r1,r2⟩:=Xza rs
  obtain⟨a,C',rfl,hC',ha⟩:=r1
  rw[hC]at hC'
  cases hC'
  cases r2
  exact⟨a,C,_,b,rfl,ha,Z,.inr ⟨_,rfl,h2 _ hb⟩,q _ _ F H w (Ext.refl s) rfl⟩
 .exact w.elim
open PySem PySem.Spec PyProof.Rows
theorem Xn8:bootBuiltins "ValueError"=some (.type "ValueError"):=by decide +kernel
section
variable {X:Cx}{K:Frag}
def Ykz:List V->Hp->VK->Prop:=λvs H Q=>∃x n,vs=[.str x]/\PySem.intText? x=some n/\x.length<=640/\Q (.int n) H
theorem Ybr:Xhb X (.type "int") Ykz:=by
 intro pins s Y H vs us Q I r h
 obtain⟨x,n,rfl,hn,hl,q⟩:=h
 obtain⟨u,rfl,ru⟩:=Xhg r
 obtain⟨t,rfl⟩:=ru
 exact PySem.W.KIN.call_text hn hl ⟨.int n,H,I.tok _,⟨_,rfl⟩,q⟩
def Yin:List D->(D->Prop)->Prop:=λds P=>match ds with
 | [.str x]=>∃n,PySem.intText? x=some n/\x.length<=640/\P (.int n)
 |_=>False
theorem Yja:CbS K Ykz Yin:=λF H ds vs P Q s rs w q=>by
 unfold Yin at w
 split at w
 .obtain ⟨n,hn,hl,w⟩:=w
  obtain⟨v,rfl,r1⟩:=Xhe rs
  cases r1
  exact⟨_,n,rfl,hn,hl,q _ _ F H w (Ext.refl s) rfl⟩
 .exact w.elim
def rStarts:V->List V->Hp->VK->Prop:=λx vs H Q=>∃a b,x = .str a/\vs=[.str b]/\Q (.bl (Txt.startswith a b)) H
theorem Xss:MtR X "str.startswith" rStarts:=by
 intro pins s Y H x xs v us Q I rx r h
 obtain⟨a,b,rfl,rfl,q⟩:=h
 obtain⟨t,rfl⟩:=rx
 obtain⟨u,rfl,ru⟩:=Xhg r
 obtain⟨t',rfl⟩:=ru
 exact PySem.SC.startswith ⟨.bl _,H,I,rfl,q⟩
def Ybi (E Ec:DE):DE:=λδ P=>E δ λd=>match d with
 | .str x=>Ec δ λl=>match l with
  | .str y=>P (.bl (Txt.startswith x y))
  |_=>False
 |_=>False
theorem Xry (h:Xe6 K te E)(ha:Xe6 K ta El): Xdi K (tBM K "str" rStarts te (Xfr ta Xoi)) (Ybi E El):=λF0 H0 F H Y δ P Q e w q=>h F0 H0 F H Y δ _ _ e w λd v F1 H1 w1 x1 r1=>by
 split at w1
 .rename_i x
  cases (show v=V.str x from r1)
  refine⟨rfl,ha F0 H0 F1 H1 Y δ _ _ (e.on x1) w1 λl u F2 H2 w2 x2 r2=>?_⟩
  split at w2
  .rename_i y
   cases (show u=V.str y from r2)
   exact⟨x,y,rfl,rfl,q _ _ F2 H2 w2 (x1.trans x2) rfl⟩
  .exact w2.elim
 .exact w1.elim
end
open PySem PySem.Spec PyProof.Rows PyProof.V PySem.W
section
variable {X:Cx}
end
section
variable {K:Frag}{X:Cx}
end
section
variable {M:Model}{A:Around}{E:Value->Shared->Prop}{s:Shared}
theorem Xok {Q:Unit->Shared->Prop}(fr:Option Addr)
  (hkb:base.StaysIn s.heap) (hl:s.heap.FunFrames base l) (ht:s.heap.TracedAtW base e cls a0 fl)
  (h:∀h',base.StaysIn h'->h'.FunFrames base l->h'.TracedAtW base e cls a0 (fr.elim .none λf=>rawInt f)->s.heap.UpToSlots h'->Q () {s with heap:=h'}):
  wpAny M A (setFlight (.ref e) fr) Q E s:=by
 obtain⟨oe,vs,T,oT,ts,he,hcls,hd,h1,hnT,hTe,hT,hdT,h3⟩:=ht
 have hsz3:3<ts.size:=(Array.getElem?_eq_some_iff.mp h3).1
 have other:∀b,b≠T->(s.heap.update T (Obj.mapFields (·.setIfInBounds 3 (fr.elim Value.none λf=>rawInt f)))).get? b=s.heap.get? b:=
  λb hb=>get?_update_other _ _ (Ne.symm hb)
 have noRecord:∀b o,s.heap.get? b=some o->(∀vs,o.data≠.fields vs)->b≠T:=λb o hb hnf q=>by
  rw[q,hT]at hb;injection hb with hb;subst hb;exact hnf ts hdT
 refine wpAny_bind (wpAny_field he hd h1 ?_)
 refine wpAny_setField hT hdT hsz3 (h _ (λb o hbo=>(other b λq=>by rw[q,hnT]at hbo;cases hbo).trans (hkb b o hbo))
  (hl.of_keeps λb o hb hnf=>⟨o,(other b (noRecord b o hb hnf)).trans hb,rfl⟩) ?_ λb o hb hnf=>⟨o.slots,(other b (noRecord b o hb hnf)).trans hb⟩)
 exact⟨oe,vs,T,_,_,(other e (Ne.symm hTe)).trans he,hcls,hd,h1,hnT,hTe,get?_update_self _ hT (Obj.isFreed_of_fields (Obj.data_mapFields hdT _)),Obj.data_mapFields hdT _,by simp[hsz3]⟩
theorem Xnt {Q:Unit->Shared->Prop}
  (hfr:A.frames=some (env::outer)) (hf:env.frame=some L) (hkb:base.StaysIn s.heap) (hen:base.get? e=none) (hl:s.heap.FunFrames base (env::outer)) (ht:s.heap.TracedAtW base e cls a0 fl)
  (hQ:∀h',Heap.FlyingW base outer e cls a0 h'->s.heap.UpToSlots h'->Q () {s with heap:=h'}): wpAny M A (leaving env (.ref e)) Q E s:=by
 by_cases hfl:fl=rawInt L
 .subst hfl
  refine wpAny_bind (wpAny_noteFrame_againW hf ht ?_)
  refine wpAny_landsW ⟨hkb,hen,hl,ht⟩ λh' hfl sm=>?_
  obtain⟨k1,k2,⟨_,_,k3⟩,k4⟩:=hfl
  exact hQ h' ⟨k1,k2,k3,k4⟩ sm
 .obtain ⟨oe,vs,T,oT,ts,he,⟨hcls,h0⟩,hd,h1,hnT,hTe,hT,hdT,h3⟩:=ht
  subst hcls
  unfold leaving noteFrame
  simp only[hf]
  refine wpAny_bind (wpAny_bind (wpAny_field he hd h1 ?_))
  refine wpAny_bind (wpAny_field hT hdT h3 ?_)
  rw[if_neg (show ¬ ((fl==rawInt L)=true) from by simpa using hfl)]
  refine wpAny_bind (wpAny_setField hT hdT (Array.getElem?_eq_some_iff.mp h3).1 ?_)
  have other:∀b,b≠T->(s.heap.update T (Obj.mapFields (·.setIfInBounds 3 Value.none))).get? b=s.heap.get? b:=λb hb=>get?_update_other _ _ (Ne.symm hb)
  have noRecord:∀b o,s.heap.get? b=some o->(∀vs,o.data≠.fields vs)->b≠T:=λb o hb hnf q=>by
   rw[q,hT]at hb;injection hb with hb;subst hb;exact hnf ts hdT
  refine wpAny_newEntryW hfr (hl.of_keeps λb o hb hnf=>⟨o,(other b (noRecord b o hb hnf)).trans hb,rfl⟩) hf ((other e (Ne.symm hTe)).trans he)
   (λb o hbo=>(other b λq=>by rw[q,hnT]at hbo;cases hbo).trans (hkb b o hbo)) hen hd (Array.getElem?_eq_some_iff.mp h1).1 h0
   λh' ⟨x1,⟨_,_,x2⟩,x3,x4⟩=>hQ h' ⟨x1,hen,x2,x3⟩ λb o hb hnf=>x4 b o ((other b (noRecord b o hb hnf)).trans hb) hnf
end
theorem Xkt {base h h':Heap}{C:Addr}(k:∀b,b≠C->h'.get? b=h.get? b):∀{l:List Env},h.FunFrames base l->C∉frs l->h'.FunFrames base l
 | [],_,_=>trivial
 |env::l,⟨hk,⟨L,o,hf,hn,ho,hd⟩,hr⟩,hC=>⟨hk,⟨L,o,hf,hn,(k L λz=>hC (mem_filterMap.mpr ⟨env,mem_cons_self,z▸hf⟩)).trans ho,hd⟩,Xkt k hr λz=>by
  obtain⟨e,he,hb⟩:=mem_filterMap.mp z
  exact hC (mem_filterMap.mpr ⟨e,mem_cons_of_mem _ he,hb⟩)⟩
section
variable {P:Program}{w:World}{K:Frag}{mg:Str->Option Value}{base:Heap}{N:List Str}{qual:Str}{scope:Scope}{f:Addr}{cd:Value}{A:Around}{outer:List Env}{s:Shared}{H:Hp}{E:XK}
theorem Xt7 {pins:List (Addr×Obj)}{Y:St}{H1 H':Hp}{s1 s':Shared}{a C0 C:Addr}{a0:Value}{B h4 h5:Heap}{oC:Obj}(I:Inv (Xjs (CXE P w) P w K mg base N qual scope f cd A outer s H E) pins Y H1 s1)
  (hE:E (.ref C0) none H') (fl:Heap.FlyingW B (envOfC qual scope s.heap.objs.size f cd::outer) a (.ref C0) a0 s'.heap)
  (agree:∀b o,s'.heap.get? b=some o->b∉frs (envOfC qual scope s.heap.objs.size f cd::outer)->((∃o0,s1.heap.get? b=some o0)∨∃u,H' b=some u)->B.get? b=some o)
  (un:Un (frs (envOfC qual scope s.heap.objs.size f cd::outer)) [] H1 H' s1.heap s'.heap) (hok:HOk P w H' s'.heap) (bare:AllBare s'.gens) (hos:s'.os=s1.os) (hna:H' a=none)
  (hC:s1.heap.get? C=some oC) (hCd:∀vs,oC.data≠.fields vs) (hCH:H1 C=none) (hCf:C∉frs (envOfC qual scope s.heap.objs.size f cd::outer)) (hCs:s.heap.objs.size<=C)
  (held:Heap.HeldW B (envOfC qual scope s.heap.objs.size f cd::outer) a (.ref C0) a0 s.heap.objs.size h4) (sm:s'.heap.UpToSlots h4) (hsb:Heap.SameBut C h4 h5) (cenv:Env):
  wpAny (model P w) (A.deeper (envOfC qual scope s.heap.objs.size f cd)) (PySem.passOn "comprehension.variables-let-go" (.ref a) cenv:Sem Value) (λ_ _=>False) (Xjs (CXE P w) P w K mg base N qual scope f cd A outer s H E).xe {s' with heap:=h5}:=by
 have hCB:B.get? C=some oC:=agree C oC (un.keep C oC hC hCH hCf (by simp)) hCf (.inl ⟨oC,hC⟩)
 have hC4:h4.get? C=some oC:=held.1 C oC hCB
 obtain⟨f1,f2,f3,oe,vs,T,oT,ts,he,hcls,hd,h1,hnT,hTe,hT,hdT,h3⟩:=PySem.W.heldW_base (base:=hideAll B [C]) (λb o q=>of_hideAll _ q) held
 have haC:a≠C:=λz=>by rw[z,hC4]at he;cases he;exact hCd vs hd
 have hTC:T≠C:=λz=>by rw[z,hC4]at hT;cases hT;exact hCd ts hdT
 have k1:(hideAll B [C]).StaysIn h5:=λb o q=>by
  have hb:b≠C:=λz=>by rw[z,hideAll_none [C] mem_cons_self]at q;cases q
  exact (hsb.2 b hb).trans (f1 b o q)
 have k2:=Xkt (λb hb=>hsb.2 b hb) f3 hCf
 have k3:h5.TracedAtW (hideAll B [C]) a (.ref C0) a0 (rawInt s.heap.objs.size):=⟨oe,vs,T,oT,ts,(hsb.2 a haC).trans he,hcls,hd,h1,hnT,hTe,(hsb.2 T hTC).trans hT,hdT,h3⟩
 refine wpAny_bind (wpAny_field ((hsb.2 a haC).trans he) hd h1 ?_)
 have go:wpAny (model P w) (A.deeper (envOfC qual scope s.heap.objs.size f cd)) (do setFlight (.ref a) cenv.frame;throw (.ref a):Sem Value) (λ_ _=>False) (Xjs (CXE P w) P w K mg base N qual scope f cd A outer s H E).xe {s' with heap:=h5}:=by
  refine wpAny_bind (Xok cenv.frame k1 k2 k3 λh6 y1 y2 y3 y4=>wpAny_throw ?_)
  refine Xnt I.ok.frames rfl y1 f2 y2 y3 λh7 z1 z2=>Xk7 (s':=s') (Z:=[C]) I hE z1 (λb o q hb hz hc=>hideAll_get [C] (agree b o q hb hc) hz) (λb o hb q=>?_) (λb z=>by rw[mem_singleton.mp z];exact⟨hCs,un.free C oC hC hCH (by simp)⟩) un hok bare hos hna
  have hn:∀vs,o.data≠.fields vs:=by
   obtain⟨_,o',ho',hd⟩:=fl.2.2.1.mem hb
   rw[q]at ho';cases ho';exact hd
  obtain⟨sl1,q1⟩:=sm b o q hn
  obtain⟨sl2,q3⟩:=y4 b _ ((hsb.2 b (λz=>hCf (z▸hb))).trans q1) hn
  obtain⟨sl3,q4⟩:=z2 b _ q3 hn
  exact⟨sl3,q4⟩
 first |exact go |exact wpAny_bind (wpAny_pure go)
end
def Xwl (sp:Sp)(E:XK)(t:TA):TE:=λY H Q=>t Y H λvs H1=>sp vs H1 Q λcls _ H2=>E cls none H2
def Xyc (wi:TI)(ix:List (Option Nat))(g:TG)(ta:TA)(sp:Sp)(E:XK):TE:=Xoj wi ix g (Xwl sp E ta)
section
variable {P:Program}{w:World}{K:Frag}{mg:Str->Option Value}{base:Heap}{N0:List Str}{qual:Str}{scope0:Scope}{f:Addr}{cd:Value}{A:Around}{outer:List Env}{s0:Shared}{H0:Hp}{E:XK}
variable {X:Cx}{tg iter e:Expr}{es:List Expr}{scope:Scope}{N:List Str}{ix:List (Option Nat)}{wi:TI}{g:TG}{ta:TA}{pos p cpos:Pos}{x:Str}{k:Nat}{ps:List Str}{sp:Sp}
theorem Xv7 {use:Option (Value->Sem Unit)}{Qv:Value->Shared->Prop}(hX:X=Xjs (CXE P w) P w K mg base N0 qual scope0 f cd A outer s0 H0 E)
  (C:CalX X.prog X.w X.K X.mg X.base x k ps sp) (hr:Room k X.A) (hgl:∀fp s H,Gl (X.blk scope N fp s H) x) (ha:∀fp s H,PA (X.blk scope N fp s H) (e::es) ta)
  (hdb:(x==("__debug__":Str))=false) (hst:∀env,starEach (e::es) env=(false,eval e env)::starEach es env) (hpl:∀env,(backTo cpos (starEach es env)).any (·.1)=false)
  (I3:Inv X pins Y H3 s3) (f3:∀b∈fp,Xmt X pins H3 b) (I7:Inv (X.blk scope N fp s3 H3) pins' Y7 H7 s7) (q7:Xwl sp E ta Y7 H7 Q'):
  wpAny (model X.prog X.w) X.A (eval (.Call (.Name x p) (e::es) [] cpos) (compEnvC scope (Xe5 scope X.env) s3.heap.objs.size X.env)) (EP (X.blk scope N fp s3 H3) pins' Y7 Q') (notedBy (model X.prog X.w) X.A (compEnvC scope (Xe5 scope X.env) s3.heap.objs.size X.env) λe s'=>compPost (model X.prog X.w) X.A X.xe use Qv acc s3.heap.objs.size (.error e) s') s7:=by
 obtain⟨fa,fd,F,hm,hk,hb⟩:=C.ex
 refine wpAny_Call_Name_kw (Xh3 I7 (hgl fp s3 _) hm ?_ hdb)
 refine callWith_K I7.ok.mod.kin hk (wpAny_mono (ha fp s3 _ cpos _ s7 Y7 H7 _ I7 q7) (λus s8 ⟨vs,H8,I8,r8,q8⟩=>⟨I8.kIn,?_⟩) λe s' z=>z.elim) (hst _) (hpl _)
 have hl:(us++[]).length=ps.length:=by rw[append_nil,<- r8.length];exact F.len _ _ _ _ q8
 have hbt:=hb s8 us I8.kIn hl
 rw[append_nil]at hbt
 refine wpAny_call (codeAny_mono (F.run X.A X.stack s8 H8 ⟨us,[]⟩ us vs _ _ hr I8.env0 hbt r8 q8) λres s9 hq=>?_)
 cases res with
 |ok fl=>
  cases fl with
  |ret yv=>
   obtain⟨y,H9,I9,r9,z⟩:=I8.after hq
   exact⟨y,H9,I9,r9,z⟩
  |_=>exact False.elim hq
 |error ev=>
  obtain⟨a,C1,a0,B,H9,rfl,hE,fl,agree,un,hok,bare,hos,hna⟩:=hq
  have J8:Inv X pins Y H8 s8:=I3.unblk f3 I8
  obtain⟨m,hn,_⟩:=I8.loc
  have hfree:H8 s3.heap.objs.size=none:=I8.free
  have hCf:s3.heap.objs.size∉frs X.stack:=λz=>by
   obtain⟨_,o,ho,_⟩:=I3.stack.mem z
   exact absurd (lt_size ho) (lt_irrefl _)
  have hLs:X.env.locals<=s3.heap.objs.size:=by
   obtain⟨m3,hn3,_⟩:=I3.loc
   exact le_of_lt hn3.lt
  subst hX
  show wpAny _ _ (noteFrame (.ref a) (envOfC qual scope0 s0.heap.objs.size f cd)) _ _ s9
  have hfr:(A.deeper (envOfC qual scope0 s0.heap.objs.size f cd)).frames=some (envOfC qual scope0 s0.heap.objs.size f cd::outer):=I3.ok.frames
  refine wpAny_looks_onW hfr rfl fl λh4 held4 sm4=>?_
  obtain⟨oC,es',ep,ho,hd,hr'⟩:=id hn
  have hCd:∀vs,oC.data≠.fields vs:=λvs q=>by rw[hd]at q;cases q
  have h4C:h4.get? s3.heap.objs.size=some oC:=held4.1 _ _ (agree _ _ (un.keep _ _ ho hfree hCf (by simp)) hCf (.inl ⟨_,ho⟩))
  exact⟨m,⟨oC,es',ep,h4C,hd,hr'⟩,λh5 hsb cenv _=>Xt7 J8 hE fl agree un hok bare hos hna ho hCd hfree hCf hLs held4 sm4 hsb cenv⟩
theorem Xqh (hX:X=Xjs (CXE P w) P w K mg base N0 qual scope0 f cd A outer s0 H0 E)(hi:PI X tg iter wi)(S:BlkScope X.env.scope scope)(cap:Xb2 X scope N ix)
  (hg:∀fp s H,PG (X.blk scope N fp s H) tg g) (C:CalX X.prog X.w X.K X.mg X.base x k ps sp) (hr:Room k X.A) (hgl:∀fp s H,Gl (X.blk scope N fp s H) x) (ha:∀fp s H,PA (X.blk scope N fp s H) (e::es) ta)
  (hdb:(x==("__debug__":Str))=false:=by decide) (hst:∀env,starEach (e::es) env=(false,eval e env)::starEach es env:=by intro _;rfl) (hpl:∀env,(backTo cpos (starEach es env)).any (·.1)=false:=by intro _;rfl)
  (hs:∀x,foldedSetIterable iter X.env x=pure x:=by intro _;rfl): PE X (.ListComp (.Call (.Name x p) (e::es) [] cpos) [⟨tg,iter,[],0⟩] scope pos) (Xyc wi ix g ta sp E):=by
 intro pins s Y H Q I h
 refine wpAny_comprehension_free rfl hs (Xmq S I.ok) S.kind S.names (Xk9 (te:=Xwl sp E ta) (RR:=λacc C=>compPost (model X.prog X.w) X.A X.xe none (EP X pins Y Q) acc C) (by rw[hX];rfl) hi S cap hg I h (λ_ _ _ _ _ _ _ _ _ I3 f3 I7 q7=>Xv7 hX C hr hgl ha hdb hst hpl I3 f3 I7 q7) λD C H' s' I' f' hn q=>?_)
 obtain⟨m,hn⟩:=hn
 exact⟨m,hn,λh' hs'=>⟨.ref D,H',I'.frameGone f' hs',rfl,q⟩⟩
end
def Yol (G:D->Dst->(Dst->Prop)->Prop)(As:DA)(n:Nat)(sp:Xwh)(Xc:Str->Prop)(ds:List D)(δ:Dst)(P:OV->Prop):Prop:=∃W:Nat->Dst->List OV->Prop,W 0 δ []/\
 (∀i d δ ts,ds[i]?=some d->W i δ ts->ts.length<1000000/\G d δ λδ'=>As δ' λas=>as.length=n/\sp as (λr=>W (i+1) δ' (ts++[r])) Xc)/\∀δ ts,W ds.length δ ts->P (.nl ts)
def Yfm (I:DA)(ix:List (Option Nat))(G:D->Dst->(Dst->Prop)->Prop)(As:DA)(n:Nat)(sp:Xwh)(Xc:Str->Prop):DO:=λδ P=>I δ λds=>Yol G As n sp Xc ds (Yfx ix δ) P
def Xlf (K:Frag)(F0 H0:Hp)(t:TE)(E:DO):Prop:=∀F H Y δ P Q,Xek K F0 H0 F H Y δ->E δ P->(∀r v F' H',P r->Ext F H F' H'->Xlg K H F' H' r v->Q v H')->t Y H Q
section
variable {K:Frag}{F0 H0:Hp}
theorem Xmg {G:D->Dst->(Dst->Prop)->Prop}{Xc:Str->Prop}(hx:∀c C F' H',Xc c->nsIn K mainGlobals c=some (some (.ref C))->Ext F0 H0 F' H'->E (.ref C) none H')
  (hi:Yb4 K wi I) (hg:Yjn K g G) (ha:Xjy K ta As): Xlf K F0 H0 (Xyc wi ix g ta (spX K n sp) E) (Yfm I ix G As n sp Xc):=λF H Y δ P Q e w q=>
 hi F0 H0 F H Y δ _ _ e w λds J F1 H1 p x1 hJ=>by
  intro L hL
  have x01:=Xek.ext (e.on x1)
  obtain⟨A,e⟩:=e.on x1
  obtain⟨W,w0,ws,wd⟩:=p
  have f1:Xbj F1 H1:=x1.fh
  refine⟨λi m Y ys H=>m=ds.length-i/\i<=ds.length/\∃F δ ts B,ER K F1 H1 F H Y δ (λ_=>[])/\W i δ ts/\F L=none/\H L=some (.lst ys)/\Xa3 K F H ts ys B/\(L::B).Nodup/\∀b∈B,H1 b=none/\F b=none,
   ⟨ds.length,rfl,zero_le _,F1,_,[],[],e.blk ix (Xbj.new hL),w0,f1.free hL,Xay,⟨rfl,rfl⟩,by simp,λ_ h=>by cases h⟩,?_⟩
  rintro i m Y2 ys H2 ⟨rfl,hil,F2,δ2,ts,B,e2,w2,l1,l2,hr,nd,nw⟩
  obtain⟨j1,j2,j3⟩:=hJ F2 H2 e2.ext.ff e2.ext.fh
  by_cases hlt:i<ds.length
  .obtain ⟨d0,hd0⟩:∃d,ds[i]?=some d:=⟨_,getElem?_eq_getElem hlt⟩
   have hl:=hr.length
   refine .inr ⟨Xwm (by have:=(ws i d0 δ2 ts hd0 w2).1;lia),j1 i hlt,λx H3 y=>?_⟩
   obtain⟨d,F3,hd,x3,r3⟩:=j3 i x H3 hlt y
   refine hg F1 H1 F3 H3 Y2 δ2 (λ_=>[]) d x _ _ (e2.on x3) r3 (ws i d δ2 ts hd w2).2 λY4 δ4 A4 w4 e4 sub=>?_
   have e4':ER K F1 H1 F3 H3 Y4 δ4 (λ_=>[]):=by
    have:A4=λ_=>[]:=funext λk=>List.eq_nil_iff_forall_not_mem.mpr λb hb=>by cases sub k b hb
    rw[this]at e4;exact e4
   refine ha F1 H1 F3 H3 Y4 δ4 _ _ ⟨_,e4'⟩ w4 λas vs F4 H4 w5 x4 r4=>?_
   refine⟨by rw[<- r4.length];exact w5.1,F4,as,_,_,x4.fh,r4,w5.2,λr v F5 H5 p5 x45 n5=>?_,λc C F5 H5 p5 hC x45=>hx c C F5 H5 p5 hC (x01.trans ((e4'.on x4).on x45).ext)⟩
   have x5:=x4.trans x45
   have n5:=n5.old x4.hh
   have x25:=x3.trans x5
   have l5:=x25.hh _ _ l2
   have l5f:=x25.no L _ l1 l2 rfl
   refine⟨l5,ds.length-(i+1),by lia,rfl,hlt,F5,δ4,ts++[r],?_⟩
   obtain⟨C,c1,c2,c3⟩:=n5
   obtain⟨n1,n2⟩:=nodup_cons.mp nd
   have hLC:L∉C:=λz=>by
    have q:=(c3 L z).1
    rw[x3.hh _ _ l2]at q;cases q
   have hBC:∀b,b∈B->b∉C:=λb hb z=>by
    obtain⟨xs,q,himm⟩:=hr.isl b hb
    have:=(c3 b z).1
    rw[x3.hh _ _ q]at this;cases this
   have e5:=e4'.on x5
   refine⟨B++C,⟨e5.len,⟨e5.ext.ff,λb o h=>?_,λb o h=>?_,e5.ext.no⟩,λj t hj=>?_,e5.bw,e5.nod,e5.dis,λ_ _ h=>by cases h⟩,p5,l5f,Xay,?_,?_,λb hb=>?_⟩
   .exact Xav (λz=>by rw[z,hL]at h;cases h) (e5.ext.hh _ _ h)
   .exact Xav (λz=>by rw[z,l5f]at h;cases h) (e5.ext.fh _ _ h)
   .obtain ⟨u,h1,h2⟩:=e5.own j t hj
    exact⟨u,h1,h2.frame (Xbj.refl _) λ_ z=>by cases z⟩
   .exact Xa3.append (hr.frame x25.ff λb hb xs z=>Xav (λq=>n1 (by rw[<- q];exact hb)) (x25.hh _ _ z)) (Xa3.one (c1.frame (Xbj.refl _) λb hb xs z=>Xav (λq=>hLC (by rw[<- q];exact hb)) z))
   .refine nodup_cons.mpr ⟨λz=>?_,nodup_append.mpr ⟨n2,c2,λx hx y hy z=>by subst z;exact hBC x hx hy⟩⟩
    rcases mem_append.mp z with z |z
    .exact n1 z
    .exact hLC z
   .rcases mem_append.mp hb with z |z
    .obtain ⟨xs,qq,himm⟩:=hr.isl b z
     exact⟨(nw b z).1,x25.no b _ (nw b z).2 qq himm⟩
    .exact ⟨(e2.ext.hh.trans x3.hh).free (c3 b z).1,(c3 b z).2⟩
  .have hi':i=ds.length:=by lia
   subst hi'
   refine .inl ⟨j2,q _ _ F2 H2 (wd _ _ w2) (x1.trans e2.ext) ⟨L::B,⟨L,ys,B,rfl,rfl,l2,hr⟩,nd,λb hb=>?_⟩⟩
   rcases mem_cons.mp hb with rfl |z
   .exact ⟨x1.hh.free hL,l1⟩
   .exact ⟨x1.hh.free (nw b z).1,(nw b z).2⟩
end
open PySem PySem.Spec PyProof.Rows
theorem Xpv (l:Addr)(items:Array Value)(n:Nat)(dd:Option Addr)(sl:Array (Option Value))(x:Value)(e:Value->Bool)(j:Nat)(hj:j<items.size)(hit:e items[j]=true)(hno:∀m (hm:m<items.size),m<j->e items[m]=false)(he:∀y,y∈items->MeetsSeq.EqGives y x (e y)):
  Meets (Builtin.«tuple.index» ⟨[.ref l,x],[]⟩)
   (λA R s=>s.heap.get? l=some {cls:=.type "tuple",dict:=dd,data:=.seq items n,slots:=sl}/\R (.ok (.ret (.int j s.toks))) {s with toks:=s.toks+1}):=
 .of_wp λprog w A R s h=>by
  obtain⟨hp,g,d,tk,os⟩:=s;obtain⟨hl,h⟩:=h
  wp_walk using wpAny_loadPart' hl
  change wpAny (model prog w) A.in1 (forIn [:min items.size items.size] ((none,()):Option Fin×Unit) (λi (_:Option Fin×Unit)=>match items[i]? with
   |some y=>do
    let b <- eqBool y x
    if b=true then do
      let r <- retInt (i:Int)
      pure (ForInStep.done (some r,()))
     else pure (ForInStep.yield (none,()))
   |_=>pure (ForInStep.yield (none,())):Nat->Option Fin×Unit->Sem (ForInStep (Option Fin×Unit)))) _ _ _
  rw[Std.Legacy.Range.forIn_eq_forIn_range']
  refine wpAny_forIn_list _ (λrst b s'=>s'=⟨hp,g,d,tk,os⟩/\∃i,rst=List.range' i (items.size-i)/\i<=j) _ ?_ ?_ _ _ ⟨rfl,0,by simp,zero_le _⟩
  .rintro y rst b s' ⟨rfl,i,hr,hi⟩
   have hlt:i<items.size:=by lia
   obtain⟨rfl,hrest⟩:y=i/\rst=List.range' (i+1) (items.size-(i+1)):=by
    have e:items.size-i=(items.size-(i+1))+1:=by lia
    rw[e]at hr
    injection hr with h1 h2
    exact⟨h1,h2⟩
   rw[Array.getElem?_eq_getElem hlt]
   refine wpAny_bind (he _ (Array.getElem_mem hlt) prog w _ _ _ _ ?_)
   by_cases hij:y=j
   .subst hij
    wp_walk
    exact⟨_,rfl,h⟩
   .rw [hno y hlt (by lia)]
    exact wpAny_pure ⟨rfl,y+1,hrest,by lia⟩
  .rintro b s' ⟨rfl,i,hr,hi⟩
   have:items.size-i=0:=by
    have:=congrArg List.length hr
    simpa using this.symm
   omega
theorem Yf6:∀{its:List Value},Xbz (ys.map V.str) its->StrsAre its ys:=by
 induction ys with
 |nil=>intro its h;cases h;exact .nil
 |cons y ys ih=>
  intro its h
  cases h with
  |cons h1 h2=>
   obtain⟨t,rfl⟩:=h1
   exact .cons _ _ (ih h2)
theorem Xqt (k:Str): ∀{vs:List Value} {ns:List Str},StrsAre vs ns->∀(j:Nat) (h1:j<vs.length) (h2:j<ns.length),isStrOf k vs[j]=(ns[j]==k)
 |_,_,.cons n t _,0,_,_=>rfl
 |_,_,.cons n t r,j+1,h1,h2=>Xqt k r j (Nat.lt_of_succ_lt_succ h1) (Nat.lt_of_succ_lt_succ h2)
theorem Xsr:∀{ns:List Str} {j:Nat},j<ns.idxOf k->∀(h2:j<ns.length),(ns[j]==k)=false
 |n::r,0,h,_=>by
  by_cases e:n=k
  .subst e;simp at h
  .simpa using e
 |n :: r,j+1,h,h2=>by
  by_cases e:n=k
  .subst e;simp at h
  .have hb:(n==k)=false:=by simpa using e
   have h':j<r.idxOf k:=by
    rw[List.idxOf_cons,hb]at h
    exact Nat.lt_of_succ_lt_succ h
   exact Xsr h' (Nat.lt_of_succ_lt_succ h2)
section
variable {X:Cx}{K:Frag}
def Ykt (K:Frag):V->List V->Hp->VK->Prop:=λx vs H Q=>∃p k,∃ys:List Str,x = .ref p/\vs=[.str k]/\SqT K H p (ys.map V.str)/\k∈ys/\Q (.int (ys.idxOf k:Nat)) H
theorem Yh8:MtR X "tuple.index" (Ykt X.K):=by
 intro pins s Y H x xs v us Q I rx r h
 obtain⟨p,k,ys,rfl,rfl,hp,hk,q⟩:=h
 cases rx
 obtain⟨u,rfl,ru⟩:=Xhg r
 obtain⟨t,rfl⟩:=ru
 obtain⟨its,hv,⟨o,ho,hc,n,hd⟩,_⟩:=I.tuple hp
 obtain⟨oc,od,odt,osl⟩:=o
 subst hc hd
 have hs:=Yf6 hv
 have hlen:its.length=ys.length:=by rw[<- hv.length,length_map]
 have hj:ys.idxOf k<ys.length:=List.idxOf_lt_length_iff.mpr hk
 refine call_meets PySem.F.slot_tuple_index ⟨_,ho,rfl⟩ PySem.F.entry_tuple_index (PySem.F.args_tuple_index_2 _ _)
  (Xpv p its.toArray n od osl (.str k t) (isStrOf k) (ys.idxOf k) (by simpa[hlen] using hj) ?_ ?_ (λy hy=>eq_isStrOf k t hs y (by simpa using hy))) ⟨ho,⟨.int _,H,I.tok _,⟨_,rfl⟩,q⟩⟩
 .show isStrOf k its[ys.idxOf k]=true
  rw[Xqt k hs _ (by lia) hj]
  simpa using List.getElem_idxOf hj
 .intro m hm hlt
  show isStrOf k its[m]=false
  rw[Xqt k hs m hm (by lia)]
  exact Xsr hlt _
def rFind:V->List V->Hp->VK->Prop:=λx vs H Q=>∃a b,x = .str a/\vs=[.str b]/\Q (.int (Txt.find a b)) H
theorem Yh9:MtR X "str.find" rFind:=by
 intro pins s Y H x xs v us Q I rx r h
 obtain⟨a,b,rfl,rfl,q⟩:=h
 obtain⟨t,rfl⟩:=rx
 obtain⟨u,rfl,ru⟩:=Xhg r
 obtain⟨t',rfl⟩:=ru
 exact PySem.SC.find ⟨.int _,H,I.tok _,⟨_,rfl⟩,q⟩
def Ymp (E Ec:DE):DE:=λδ P=>E δ λd=>match d with
 | .str x=>Ec δ λl=>match l with
  | .str y=>P (.int (Txt.find x y))
  |_=>False
 |_=>False
theorem Yg1 (h:Xe6 K te E)(ha:Xe6 K ta El): Xdi K (tBM K "str" rFind te (Xfr ta Xoi)) (Ymp E El):=λF0 H0 F H Y δ P Q e w q=>h F0 H0 F H Y δ _ _ e w λd v F1 H1 w1 x1 r1=>by
 split at w1
 .rename_i x
  cases (show v=V.str x from r1)
  refine⟨rfl,ha F0 H0 F1 H1 Y δ _ _ (e.on x1) w1 λl u F2 H2 w2 x2 r2=>?_⟩
  split at w2
  .rename_i y
   cases (show u=V.str y from r2)
   exact⟨x,y,rfl,rfl,q _ _ F2 H2 w2 (x1.trans x2) rfl⟩
  .exact w2.elim
 .exact w1.elim
def Yjv (K:Frag)(mg:Str->Option Value)(x:Str)(ys:List Str):Prop:=∃a o,mg x=some (.ref a)/\(∀F,Rep K F (.tup (ys.map D.str)) (.ref a))/\K.lookup a=some o/\o.cls = .type "tuple"/\o.dict=none
def Yon (K:Frag)(ys:List Str):TE:=λ_ H Q=>∀a o,SqT K H a (ys.map V.str)->K.lookup a=some o->o.cls = .type "tuple"->o.dict=none->Q (.ref a) H
theorem Xu5:∀{ys:List Str} {vs:List V},Xb1 K F (ys.map D.str) vs->vs=ys.map V.str
 | [],_,h=>h
 |y::ys,_,h=>by
  obtain⟨v,r,rfl,g1,g2⟩:=h
  rw[Xu5 g2,show v=V.str y from g1]
  rfl
theorem Yjv.c {mg:Str->Option Value}(h:Yjv K mg x ys): Ybz K mg x (.tup (ys.map D.str)):=let⟨a,_,e,r,_⟩:=h;⟨a,e,r⟩
theorem Yc3 (hg:Gl X x)(hm:Yjv X.K X.mg x ys)(hd:(x==("__debug__":Str))=false:=by decide): PE X (.Name x pos) (Yon X.K ys):=by
 intro pins s Y H Q I h
 obtain⟨a,o,e,r,h1,h2,h3⟩:=hm
 obtain⟨a',vs,e1,hsq,hrs⟩:=r H
 cases e1
 rw[Xu5 hrs]at hsq
 exact Xjp (v:=.ref a) hg e rfl hd pins s Y H Q I (h _ _ hsq h1 h2 h3)
def Yme (ys:List Str)(Ec:DE):DE:=λδ P=>Ec δ λl=>match l with
 | .str k=>k∈ys/\P (.int (ys.idxOf k:Nat))
 |_=>False
theorem Ygx (ha:Xe6 K ta El): Xdi K (tBM K "tuple" (Ykt K) (Yon K ys) (Xfr ta Xoi)) (Yme ys El):=λF0 H0 F H Y δ P Q e w q=>λa o hsq h1 h2 h3=>by
 refine⟨.inr (.inl ⟨rfl,o,h1,h2,h3⟩),ha F0 H0 F H Y δ _ _ e w λl u F2 H2 w2 x2 r2=>?_⟩
 split at w2
 .rename_i k
  cases (show u=V.str k from r2)
  exact⟨a,k,ys,rfl,rfl,x2.hh.seqT hsq,w2.1,q _ _ F2 H2 w2.2 x2 rfl⟩
 .exact w2.elim
def Xt1:DR2:=λx y P=>match x,y with
 | .str i,.str j=>P (.bl (!(!(Builtin.Str.occurrences j i 0 j.length 1).isEmpty)))
 |_,_=>False
theorem Xz4:OpS K (λx y H Q=>∃i j,x = .str i/\y = .str j/\Q (.bl (!(!(Builtin.Str.occurrences j i 0 j.length 1).isEmpty))) H) Xt1:=λF H x y v u P Q s rx ry w q=>by
 unfold Xt1 at w
 split at w
 .exact ⟨_,_,rx,ry,q _ _ F H w (Ext.refl s) rfl⟩
 .exact w.elim
def Ynu:List D->(D->Prop)->Prop:=λds P=>match ds with
 | [.str x]=>x.length=1/\P (.int (x.cps.getD 0 0:Nat))
 |_=>False
theorem Yfv:CbS K (λxs H Q=>∃x,xs=[.str x]/\x.length=1/\Q (.int (x.cps.getD 0 0:Nat)) H) Ynu:=λF H ds vs P Q s rs w q=>by
 unfold Ynu at w
 split at w
 .obtain ⟨hl,w⟩:=w
  obtain⟨v,rfl,r1⟩:=Xhe rs
  cases r1
  exact⟨_,rfl,hl,q _ _ F H w (Ext.refl s) rfl⟩
 .exact w.elim
theorem Xwx (h:Xe6 K te E)(hc:Xlf K F0 H0 tc Ec): Xxw K F0 H0 (Yj3 (tBM K "str" (Yhh K) te (Xfr tc Xoi))) (Ym5 (dFz (Yi7 E (Yjs Ec)))):=λF H Y δ De En e l w=>h F0 H0 F H Y δ _ _ e w λd v F1 H1 w1 x1 r1=>by
 split at w1
 .rename_i x
  cases (show v=V.str x from r1)
  refine⟨rfl,hc F1 H1 Y δ _ _ (e.on x1) w1 λr u F2 H2 w2 x2 n2=>?_⟩
  obtain⟨F2',x2',_,r2⟩:=n2.frz x2
  try dsimp only at w2
  split at w2
  .rename_i ds hds
   rw[hds]at r2
   obtain⟨ys,rfl,hb,w2⟩:=w2
   obtain⟨a,us,rfl,h1,h2⟩:=r2
   have hus:us=ys.map V.str:=by
    clear h1 hb w2 hds
    induction ys generalizing us with
    |nil=>exact h2
    |cons y ys ih=>
     obtain⟨v,r,rfl,g1,g2⟩:=h2
     rw[ih _ g2,show v=V.str y from g1];rfl
   exact⟨x,a,us,ys,rfl,rfl,Xbj.seq x2'.fh h1,hus,hb,l.rt F2' H2 (.fz (.str (Txt.join x ys))) _ (e.ext.trans (x1.trans x2')) (.fz rfl) w2⟩
  .exact w2.elim
 .exact w1.elim
end
open PySem PySem.Spec PyProof.Rows PyProof.V PySem.W
section
variable {K:Frag}{h:Heap}{mg:Str->Option Value}{x m q c:Str}{st:Stmt}{f T C:Addr}{od an odT:Option Addr}{sl slT:Array (Option Value)}{oc kV dc pm cd ct ocT:Value}{nT:Nat}{ds:Array Value}
theorem dmk (X:K.In h)(G:h.Ns mainGlobals mg)(a:nsIn K mainGlobals x=some (some (.ref f)):=by k_is)(l:K.lookup f=some ⟨oc,od,.func (fnOf x x (Xb5 st) (Xbi st) (Xae st) .none kV dc pm an cd ct),sl⟩:=by k_is)(d:codeIn K cd x=true:=by k_is)(k:keepIn K (.ref f)=true:=by k_is):
  DefAt K mg x st f (fnOf x x (Xb5 st) (Xbi st) (Xae st) .none kV dc pm an cd ct):=⟨Ya3 l d k,mg_of X G a⟩
theorem Yp3 (X:K.In h)(G:h.Ns mainGlobals mg)(a:nsIn K mainGlobals x=some (some (.ref f)):=by k_is)(l:K.lookup f=some ⟨oc,od,.func (fnOf x x (Xb5 st) (Xbi st) (Xae st) (.ref T) kV dc pm an cd ct),sl⟩:=by k_is)(d:codeIn K cd x=true:=by k_is)(k:keepIn K (.ref f)=true:=by k_is)(dl:K.lookup T=some ⟨ocT,odT,.seq ds nT,slT⟩:=by k_is):
  DefAtD K mg x st f (fnOf x x (Xb5 st) (Xbi st) (Xae st) (.ref T) kV dc pm an cd ct) T ds:=⟨⟨_,_,_,_,_,_,_,_,_,rfl,l,d⟩,⟨_,_,dl,rfl⟩,k,mg_of X G a⟩
theorem dnm (X:K.In h)(G:h.Ns mainGlobals mg)(a:nsIn K mainGlobals x=some (some (.ref f)):=by k_is): Xq8 K mg x:=⟨_,a,mg_of X G a⟩
theorem Yp6 (X:K.In h)(aC:nsIn K mainGlobals c=some (some (.ref C)):=by k_is)(pg:plainGet K C Str.empty=true:=by k_is)(hd:PySem.W.hasDictIn K C=true:=by k_is)(po:plainOver K C=true:=by k_is)(sa:PySem.W.findIn K (.ref C) "__setattr__"=some (some (.builtin "object.__setattr__")):=by k_is)(hn:∀f∈ns,PySem.W.findIn K (.ref C) f=some none)(h1:ns.Nodup)(h2:ns.length<1000): ClsV K c ns:=
 ⟨⟨C,aC,⟨pg,hd,po,sa⟩,hn⟩,h1,h2⟩
theorem Yff (X:K.In h)(CV:ClsV K c ns)(aC:nsIn K mainGlobals c=some (some (.ref C)):=by k_is)(a:PySem.W.findIn K (.ref C) m=some (some (.ref f)):=by k_is)(i:isFn K (.ref f)=true:=by k_is)(l:K.lookup f=some ⟨oc,od,.func (fnOf m q (Xb5 st) (Xbi st) (Xae st) .none kV dc pm an cd ct),sl⟩:=by k_is)(d:codeIn K cd q=true:=by k_is)(k:keepIn K (.ref f)=true:=by k_is):
  MetAt K c m q st f (fnOf m q (Xb5 st) (Xbi st) (Xae st) .none kV dc pm an cd ct):=by
 obtain⟨C',e,Z,_⟩:=CV.ex
 rw[aC]at e
 cases e
 exact⟨Ya3 l d k,⟨_,aC,Z,⟨a,i,k⟩⟩⟩
theorem Yp4 (X:K.In h)(G:h.Ns mainGlobals mg)(aC:nsIn K mainGlobals c=some (some (.ref C)):=by k_is)(mk:makesIn K C=true:=by k_is)(kc:keepIn K (.ref C)=true:=by k_is)(a:PySem.W.findIn K (.ref C) "__init__"=some (some (.ref f)):=by k_is)(i:isFn K (.ref f)=true:=by k_is)(l:K.lookup f=some ⟨oc,od,.func (fnOf "__init__" q (Xb5 st) (Xbi st) (Xae st) .none kV dc pm an cd ct),sl⟩:=by k_is)(d:codeIn K cd q=true:=by k_is)(k:keepIn K (.ref f)=true:=by k_is):
  Fun K "__init__" q st f (fnOf "__init__" q (Xb5 st) (Xbi st) (Xae st) .none kV dc pm an cd ct)/\MakAt K mg c f:=⟨Ya3 (x := "__init__") l d k,⟨⟨_,aC,⟨mk,a,i,kc⟩,mg_of X G aC⟩⟩⟩
theorem mz (X:K.In h)(G:h.Ns mainGlobals mg)(e:nsIn K mainGlobals n=some none:=by k_is): mg n=none:=PySem.W.mg_none_of X G e
theorem mv (X:K.In h)(G:h.Ns mainGlobals mg)(e:nsIn K mainGlobals n=some (some v):=by k_is): mg n=some v:=mg_of X G e
theorem Ypz (Df:DefAt K mg x st f fd)(hb:∀(s:Shared) (v:Value),BindsTo s fd ⟨[v],[]⟩ [("_law_script",v)])(hc:∀base:Heap,K.In base->base.Ns mainGlobals mg->FnOk P w K mg base CX0 k f fd ["_law_script"] sp):
  ∃fd:FuncData,(∀(s:Shared) (v:Value),BindsTo s fd ⟨[v],[]⟩ [("_law_script",v)])/\∀base:Heap,K.In base->base.Ns mainGlobals mg->FnOk P w K mg base CX0 k f fd ["_law_script"] sp:=⟨fd,hb,hc⟩
end
section
variable {K:Frag}
end
section
variable {X:Cx}
end
section
variable {K:Frag}
end
section
variable {K:Frag}
end
section
variable {X:Cx}
end
section
variable {P:Program}{w:World}{K:Frag}{mg:Str->Option Value}{base:Heap}{c m q:Str}{ns:List Str}{st:Stmt}{f:Addr}{fd:FuncData}{N ps:List Str}{k n:Nat}
end
section
variable {K:Frag}
end
end L2
namespace PySem
open Builtin
end PySem
namespace L2
open PySem PySem.Spec PyProof.Rows PyProof.V PySem.W
section
variable {X:Cx}
end
section
variable {K:Frag}
end
section
variable {P:Program}{w:World}{K:Frag}{mg:Str->Option Value}{base:Heap}{N:List Str}
end
section
variable {X:Cx}
end
section
variable {K:Frag}{te ti:TE}{Eo:DO}{Ei:DE}
end
def rSplit:V->List V->Hp->VK->Prop:=λx vs H Q=>∃a b,x = .str a/\vs=[.str b]/\1<=b.length/\a.length<sizeLine/\∀l,H l=none->Q (.ref l) (upd H l (.lst ((Txt.split a b).map V.str)))
theorem Xq9:∀(l:List Str) (k:Nat),Xbz (l.map V.str) (strsFrom k l)
 | [],_=>.nil
 |a::l,k=>.cons ⟨_,rfl⟩ (Xq9 l (k+1))
section
variable {X:Cx}
theorem Xmn:MtM X "str.split" rSplit:=by
 intro pins s Y H x vs v us Q I rx rv h
 obtain⟨a,b,rfl,rfl,hb,hz,q⟩:=h
 obtain⟨t,rfl⟩:=rx
 obtain⟨u,rfl,ru⟩:=rv.one
 obtain⟨t',rfl⟩:=ru
 have hy:(b.length==0)=false:=beq_eq_false_iff_ne.mpr (by lia)
 have hw:=split_weight a b hb
 have hl:(Txt.split a b).length<=sizeLine:=by lia
 cases h1:(decide (a.length<b.length) ||decide (Builtin.Str.strKind a<Builtin.Str.strKind b))
 .cases hf:(Builtin.Str.occurrences a b 0 a.length (a.length+1)).isEmpty
  .have e:Txt.split a b=Builtin.Str.partsBetween a (Builtin.Str.occurrences a b 0 a.length (a.length+1)) b.length:=(if_neg (by rw[h1];decide)).trans (if_neg (by rw[hf];decide))
   rw[e]at hl q
   exact call_meets F.slot_str_split (typeIs_str _ _ _) F.entry_str_split (F.args_str_split_2 _ _) (meets_str_split_sep a b t t' h1 hy hf (by lia) hl) ⟨.ref _,_,I.lnew (Xq9 _ s.toks) (by rw[length_map];exact hl),rfl,q _ I.fresh⟩
  .have e:Txt.split a b=[a]:=(if_neg (by rw[h1];decide)).trans (if_pos hf)
   rw[e]at q
   exact call_meets F.slot_str_split (typeIs_str _ _ _) F.entry_str_split (F.args_str_split_2 _ _) (meets_str_split_not_found a b t t' h1 hy hf) ⟨.ref _,_,I.lnew (ys:=[V.str a]) (t':=s.toks) (.cons ⟨_,rfl⟩ .nil) (by show 1<=sizeLine;rw[sizeLine_eq];decide),rfl,q _ I.fresh⟩
 .have e:Txt.split a b=[a]:=if_pos h1
  rw[e]at q
  exact call_meets F.slot_str_split (typeIs_str _ _ _) F.entry_str_split (F.args_str_split_2 _ _) (meets_str_split_cannot_occur a b t t' h1) ⟨.ref _,_,I.lnew (ys:=[V.str a]) (t':=s.toks) (.cons ⟨_,rfl⟩ .nil) (by show 1<=sizeLine;rw[sizeLine_eq];decide),rfl,q _ I.fresh⟩
end
def Yfj (E Ec:DE):DO:=λδ P=>E δ λd=>match d with
 | .str x=>Ec δ λl=>match l with
  | .str y=>1<=y.length/\x.length<=1000000/\P (.nl ((Txt.split x y).map λs=>.fz (.str s)))
  |_=>False
 |_=>False
section
variable {K:Frag}
theorem Xr0:∀l:List Str,Xb1 K F (l.map D.str) (l.map V.str)
 | []=>rfl
 |a::l=>⟨_,_,rfl,rfl,Xr0 l⟩
theorem Xmh (h:Xe6 K te E)(ha:Xe6 K ta El): Xjx K (tBM K "str" rSplit te (Xfr ta Xoi)) (Yfj E El):=λF0 H0 F H Y δ P Q e w q=>h F0 H0 F H Y δ _ _ e w λd v F1 H1 w1 x1 r1=>by
 split at w1
 .rename_i x
  cases (show v=V.str x from r1)
  refine⟨rfl,ha F0 H0 F1 H1 Y δ _ _ (e.on x1) w1 λl u F2 H2 w2 x2 r2=>?_⟩
  split at w2
  .rename_i y
   cases (show u=V.str y from r2)
   obtain⟨hy,hx,w2⟩:=w2
   have hs:=sizeLine_eq
   have x12:=x1.trans x2
   refine⟨x,y,rfl,rfl,hy,by lia,λl l0=>?_⟩
   have n:=Xlg.list (K:=K) (F':=F2) (H':=upd H2 l (.lst ((Txt.split x y).map V.str))) (x12.hh.free l0) (x2.fh.free l0) Xay (Xr0 (Txt.split x y))
   rw[map_map]at n
   exact q _ _ F2 _ w2 (x12.trans (Ext.grow x2.fh (Xbj.new l0))) n
  .exact w2.elim
 .exact w1.elim
def Ynr:DR2:=λx y P=>match x,y with
 | .str i,.str j=>P (.bl (!(Builtin.Str.occurrences j i 0 j.length 1).isEmpty))
 |_,_=>False
theorem Ylk:OpS K (λx y H Q=>∃i j,x = .str i/\y = .str j/\Q (.bl (!(Builtin.Str.occurrences j i 0 j.length 1).isEmpty)) H) Ynr:=λF H x y v u P Q s rx ry w q=>by
 unfold Ynr at w
 split at w
 .exact ⟨_,_,rx,ry,q _ _ F H w (Ext.refl s) rfl⟩
 .exact w.elim
end
section
variable {P:Program}{w:World}{K:Frag}{mg:Str->Option Value}{base:Heap}{N:List Str}{qual:Str}{scope:Scope}{f:Addr}{cd:Value}{A:Around}{outer:List Env}{s:Shared}{H:Hp}{E:XK}
theorem Xus (I:Inv (Xjs (CXE P w) P w K mg base N qual scope f cd A outer s H E) pins Y H1 s1)
  (hE:E (.ref C0) none H') (fl:Heap.FlyingW B (envOfC qual scope s.heap.objs.size f cd::outer) a (.ref C0) a0 s'.heap)
  (agree:∀b o,s'.heap.get? b=some o->b∉frs (envOfC qual scope s.heap.objs.size f cd::outer)->((∃o0,s1.heap.get? b=some o0)∨∃u,H' b=some u)->B.get? b=some o)
  (un:Un (frs (envOfC qual scope s.heap.objs.size f cd::outer)) [] H1 H' s1.heap s'.heap) (hok:HOk P w H' s'.heap) (bare:AllBare s'.gens) (hos:s'.os=s1.os) (hna:H' a=none):
  (Xjs (CXE P w) P w K mg base N qual scope f cd A outer s H E).xe (.ref a) s':=by
 obtain⟨y1,f2,y2,y3⟩:=fl
 refine Xnt I.ok.frames rfl y1 f2 y2 y3 λh7 z1 z2=>Xk7 (Z:=[]) I hE z1 (λb o q hb _ hc=>agree b o q hb hc) (λb o hb q=>z2 b o q λvs=>?_) (λ_ z=>by cases z) un hok bare hos hna
 obtain⟨_,o',ho',hd⟩:=y2.mem hb
 rw[q]at ho';cases ho';exact hd vs
theorem Xt6 (hX:X=Xjs (CXE P w) P w K mg base N qual scope f cd A outer s H E)
  (C:CalX X.prog X.w X.K X.mg X.base x k ps sp) (hr:Room k X.A) (hg:Gl X x) (ha:PA X (e::es) ta)
  (hdb:(x==("__debug__":Str))=false:=by decide) (hst:starEach (e::es) X.env=(false,eval e X.env)::starEach es X.env:=by rfl) (hpl:(backTo cpos (starEach es X.env)).any (·.1)=false:=by rfl):
  PE X (.Call (.Name x p) (e::es) [] cpos) (Xwl sp E ta):=by
 intro pins s0 Y H0 Q I h
 obtain⟨fa,fd,F,hm,hk,hb⟩:=C.ex
 refine wpAny_Call_Name_kw (Xh3 I hg hm ?_ hdb)
 refine callWith_K I.ok.mod.kin hk (wpAny_mono (ha cpos pins s0 Y H0 _ I h) (λus s1 ⟨vs,H1,I1,r,q⟩=>⟨I1.kIn,?_⟩) λe s' z=>z) hst hpl
 have hl:(us++[]).length=ps.length:=by rw[append_nil,<- r.length];exact F.len _ _ _ _ q
 have hbt:=hb s1 us I1.kIn hl
 rw[append_nil]at hbt
 refine wpAny_call (codeAny_mono (F.run X.A X.stack s1 H1 ⟨us,[]⟩ us vs _ _ hr I1.env0 hbt r q) λres s' hq=>?_)
 cases res with
 |ok fl=>
  cases fl with
  |ret u=>
   obtain⟨v,H',I',r',z⟩:=I1.after hq
   exact⟨v,H',I',r',z⟩
  |_=>exact False.elim hq
 |error ev=>
  obtain⟨a,C1,a0,B,H9,rfl,hE,fl,agree,un,hok,bare,hos,hna⟩:=hq
  subst hX
  exact Xus I1 hE fl agree un hok bare hos hna
end
def Yfp (n:Nat)(sp:Xwh)(Xc:Str->Prop)(As:DA):DO:=λδ P=>As δ λds=>ds.length=n/\sp ds P Xc
section
variable {K:Frag}{F0 H0:Hp}{t ta tc:TE}{Ec:DO}{Ea:DE}
theorem Xtx {Xc:Str->Prop}(hx:∀c C F' H',Xc c->nsIn K mainGlobals c=some (some (.ref C))->Ext F0 H0 F' H'->E (.ref C) none H')
  (ha:Xjy K a As): Xlf K F0 H0 (Xwl (spX K n sp) E a) (Yfp n sp Xc As):=λF H Y δ P Q e w q=>ha F0 H0 F H Y δ _ _ e w λds vs F1 H1 w1 x1 r1=>
 ⟨by rw[<- r1.length];exact w1.1,F1,ds,_,_,x1.fh,r1,w1.2,λr v F' H' p x' r'=>q r v F' H' p (x1.trans x') (r'.old x1.hh),λc C F' H' p hC x'=>hx c C F' H' p hC (Xek.ext ((e.on x1).on x'))⟩
theorem Ycj (h:Xlf K F0 H0 tc Ec): Xlf K F0 H0 tc (dFz (Yjs Ec)):=λF H Y δ P Q e w q=>h F H Y δ _ _ e w λr v F1 H1 w1 x1 n1=>by
 obtain⟨F2,x2,_,r2⟩:=n1.frz x1
 exact q _ v F2 H1 w1 x2 (.fz r2)
theorem Yek (h:Xlf K F0 H0 tc Ec): Xxw K F0 H0 (Yj3 tc) (Ym5 Ec):=λF H Y δ De En e l w=>h F H Y δ _ _ e w λr v F' H' p x n=>l.rt F' H' r v (e.ext.trans x) (n.old e.ext.hh) p
theorem Xvc (h:Xlf K F0 H0 tc Ec): Xxw K F0 H0 (Xyg tc (Xo2 i)) (Ynj i Ec):=λF H Y δ De En e l w=>h F H Y δ _ _ e w λr v F' H' p x n=>l.nx F' H' _ _ (e.put x i n) p
theorem Xyz {R:List V->Hp->VK->Prop}{r:List D->(OV->Prop)->Prop}(h:CbO K R r)(hc:Xlf K F0 H0 tc Ec): Xlf K F0 H0 (tCB R (Xfr tc Xoi)) (Yoa r (Ybl (Yjs Ec) Ymm)):=λF H Y δ P Q e w q=>
 hc F H Y δ _ _ e w λo v F1 H1 w1 x1 n1=>by
  obtain⟨F2,x2,_,r2⟩:=n1.frz x1
  exact h F2 H1 [o.val] [v] _ _ x2.fh ⟨v,[],rfl,r2,rfl⟩ w1 λd u F' H' p x' r'=>q _ u F' H' p (x2.trans x') (r'.old x2.hh)
theorem Ygt (hc:Xlf K F0 H0 tc Ec): Xlf K F0 H0 (Yf4 (Xfr tc Xoi)) (Yn9 (Ybk Ec Yi6)):=λF H Y δ P Q e w q=>hc F H Y δ _ _ e w λr v F1 H1 w1 x1 n1=>by
 obtain⟨A,a1,a2,a3⟩:=n1
 refine⟨Xd0 (show 1<=1000000 by decide),λp H' hp hs he=>?_⟩
 refine q _ _ F1 H' w1.2 (x1.trans ⟨Xbj.refl _,hs,x1.fh.trans hs,λ_ _ z _ _=>z⟩) ⟨p::A,⟨p,[v],A,rfl,rfl,he,(Xa3.one a1).frame (Xbj.refl _) λb _ xs z=>hs _ _ z⟩,nodup_cons.mpr ⟨λz=>?_,a2⟩,λb hb=>?_⟩
 .obtain ⟨xs,z,_⟩:=a1.isl p z
  rw[hp]at z;cases z
 .rcases mem_cons.mp hb with rfl |hb
  .exact ⟨x1.hh.free hp,x1.fh.free hp⟩
  .exact a3 b hb
theorem Ykn (ha:Xdi K ta Ea)(hc:Xlf K F0 H0 tc Ec): Xlf K F0 H0 (tOp (Yhi K) ta tc) (Yi8 Ea (Yjs Ec)):=λF H Y δ P Q e w q=>
 ha F0 H0 F H Y δ _ _ e w λx v F1 H1 w1 x1 r1=>hc F1 H1 Y δ _ _ (e.on x1) w1 λy u F2 H2 w2 x2 n2=>by
  obtain⟨F3,x3,_,r3⟩:=n2.frz x2
  have x12:=x1.trans x3
  try dsimp only at w2
  split at w2
  .rename_i xs ys hy
   rw[hy]at r3
   obtain⟨p,vs,rfl,h1,h2⟩:=r1.mono x3.ff
   obtain⟨p',vs',rfl,h1',h2'⟩:=r3
   have l1:=h2.length
   have l2:=h2'.length
   exact⟨p,p',vs,vs',rfl,rfl,x3.fh.seq h1,x3.fh.seq h1',Xd0 (by lia),λl H' l0 sm lq=>q _ _ F3 H' w2.2 (x12.trans (Ext.grow x3.fh sm)) (Xlg.list (x12.hh.free l0) (x3.fh.free l0) lq (h2.append h2'))⟩
  .exact w2.elim
end
section
variable {P:Program}{w:World}{K:Frag}{mg:Str->Option Value}{base:Heap}{N0:List Str}{qual:Str}{scope0:Scope}{f:Addr}{cd:Value}{A:Around}{outer:List Env}{s0:Shared}{H0:Hp}{E:XK}
variable {X:Cx}{tg iter e:Expr}{es:List Expr}{scope:Scope}{N:List Str}{ix:List (Option Nat)}{wi:TI}{g:TG}{ta:TA}{pos p cpos:Pos}{x:Str}{k:Nat}{ps:List Str}{sp:Sp}
theorem Xt3 (hX:X=Xjs (CXE P w) P w K mg base N0 qual scope0 f cd A outer s0 H0 E)(hN:X.N.Nodup)(hiN:X.N[i]?=some y)(hy:Loc X.env.scope y)(hi:PI X tg iter wi)(S:BlkScope X.env.scope scope)(cap:Xb2 X scope N ix)
  (hg:∀fp s H,PG (X.blk scope N fp s H) tg g) (C:CalX X.prog X.w X.K X.mg X.base x k ps sp) (hr:Room k X.A) (hgl:∀fp s H,Gl (X.blk scope N fp s H) x) (ha:∀fp s H,PA (X.blk scope N fp s H) (e::es) ta)
  (hdb:(x==("__debug__":Str))=false:=by decide) (hst:∀env,starEach (e::es) env=(false,eval e env)::starEach es env:=by intro _;rfl) (hpl:∀env,(backTo cpos (starEach es env)).any (·.1)=false:=by intro _;rfl)
  (hsw:swapsWith (.ListComp (.Call (.Name x p) (e::es) [] cpos) [⟨tg,iter,[],0⟩] scope pos) (some (.Name y py)) spos.line X.env=pure true:=by rfl)
  (hs:∀x,foldedSetIterable iter X.env x=pure x:=by intro _;rfl) (hf:X.fn y=true∨X.env.scope.names.lookup y=some .local:=by first |exact .inl rfl |exact .inr rfl |assumption):
  PS X (.Assign [.Name y py] (.ListComp (.Call (.Name x p) (e::es) [] cpos) [⟨tg,iter,[],0⟩] scope pos) spos) (Xyg (Xyc wi ix g ta sp E) (Xo2 i)):=by
 intro pins s Y H Dn I h
 rw[exec_Assign_Name_used _ _ _ _ hsw]
 refine wpAny_bind (wpAny_standAt (wpAny_bind ?_))
 refine wpAny_bind (wpAny_mono (wpAny_comprehension_free (use:=some (assign (.Name y py) X.env)) (Q:=λ_ s'=>SP X pins Dn .next s') rfl hs (Xmq S I.ok) S.kind S.names
  (Xk9 (te:=Xwl sp E ta) (Q:=λv H1=>Xo2 i v Y H1 Dn.nx) (RR:=λacc C=>compPost (model X.prog X.w) X.A X.xe (some (assign (.Name y py) X.env)) (λ_ s'=>SP X pins Dn .next s') acc C) (by rw[hX];rfl) hi S cap hg I h (λ_ _ _ _ _ _ _ _ _ I3 f3 I7 q7=>Xv7 hX C hr hgl ha hdb hst hpl I3 f3 I7 q7) λl C H' s' I' f' hn q=>?_)) (λ_ s' hq=>wpAny_pure (wpAny_pure hq)) λ_ _ e=>e)
 obtain⟨m,hn⟩:=hn
 refine wpAny_assign_Name (Xmy (v:=.ref l) I' hN hiN hy rfl (λs'' I'' ⟨a,hsb,ha⟩=>?_) hf)
 have hCa:C≠a:=by
  rcases ha with z |z
  .rw [z];exact f'.2.1
  .exact Ne.symm (f'.2.2.2.2.1 y a z)
 exact⟨m,hn.sameBut hsb hCa,λh' hs'=>⟨_,H',I''.frameGone f' hs',q⟩⟩
end
def Ygs (i:Nat)(Ei:DE):DS:=λDe δ=>match δ[i]? with
 |some (some (.own (.nl ts)))=>Ei δ λd=>match d with
  | .int k=>0<=k/\k<ts.length/\ts.length<=1000000/\De.nx (δ.set i (some (.own (.nl (ts.eraseIdx k.toNat)))))
  |_=>False
 |_=>False
theorem Xa3.erase {K:Frag}{F H:Hp}:∀{ts:List OV} {vs:List V} {A:List Addr} (k:Nat),Xa3 K F H ts vs A->∃B,Xa3 K F H (ts.eraseIdx k) (vs.eraseIdx k) B/\(∀b∈B,b∈A)/\(A.Nodup->B.Nodup)
 | [],vs,A,k,h=>by
  obtain⟨rfl,rfl⟩:=h
  exact⟨[],⟨rfl,rfl⟩,λ_ h=>h,λh=>h⟩
 |t::ts,vs,A,0,h=>by
  obtain⟨v,r,A1,A2,rfl,rfl,h1,h2⟩:=h
  exact⟨A2,h2,λb hb=>mem_append.mpr (.inr hb),λh=>(nodup_append.mp h).2.1⟩
 |t :: ts,vs,A,k+1,h=>by
  obtain⟨v,r,A1,A2,rfl,rfl,h1,h2⟩:=h
  obtain⟨B,b1,b2,b3⟩:=Xa3.erase k h2
  refine⟨A1++B,⟨v,r.eraseIdx k,A1,B,rfl,rfl,h1,b1⟩,λb hb=>?_,λh=>?_⟩
  .rcases mem_append.mp hb with z |z
   .exact mem_append.mpr (.inl z)
   .exact mem_append.mpr (.inr (b2 b z))
  .obtain ⟨n1,n2,n3⟩:=nodup_append.mp h
   exact nodup_append.mpr ⟨n1,b3 n2,λx hx y hy=>n3 x hx y (b2 y hy)⟩
section
variable {K:Frag}{ti:TE}{Ei:DE}
theorem Ygn {i:Nat}(hi:Xe6 K ti Ei):Xc3 K (Xpx (tBM K "list" rPopAt (Xod i) (Xfr ti Xoi))) (Ygs i Ei):=λF0 H0 F H Y δ De En e l w=>by
 obtain⟨A,e⟩:=e
 unfold Ygs at w
 split at w
 .rename_i ts hs
  obtain⟨v,hv,a,vs,B,rfl,eA,ha,hB⟩:=e.own i _ hs
  refine⟨_,hv,.inl ⟨rfl,_,SqL.of ha⟩,?_⟩
  refine hi F0 H0 F H Y δ _ _ ⟨A,e⟩ w λd kv F1 H1 w1 x1 r1=>?_
  split at w1
  .rename_i k
   obtain⟨k0,k1,k2,w1⟩:=w1
   cases r1
   have e2:=e.on x1
   have hl:=hB.length
   have hlt:k.toNat<vs.length:=by lia
   refine⟨a,vs,k,k.toNat,vs[k.toNat],rfl,rfl,x1.hh _ _ ha,by lia,by lia,?_,getElem?_eq_getElem hlt,?_⟩
   .unfold seqIndex?
    rw[if_neg (show ¬ k<0 by lia),if_pos (by simp;lia)]
   .have hB1:Xa3 K F1 H1 ts vs B:=hB.frame x1.ff λb _ xs z=>x1.hh _ _ z
    have hnd:=e.nod i
    rw[eA]at hnd
    obtain⟨n1,n2⟩:=nodup_cons.mp hnd
    obtain⟨C,c1,c2,c3⟩:=hB1.erase k.toNat
    refine l.nx F1 _ Y _ (e2.change i hv (t':=.nl (ts.eraseIdx k.toNat)) (B:=a::C) ⟨a,vs.eraseIdx k.toNat,C,rfl,rfl,Xay,c1.frame (Xbj.refl _) λb hb xs q=>Xav (λz=>n1 (by rw[<- z];exact c2 b hb)) q⟩ ?_ ?_ ?_ ?_) w1
    .exact nodup_cons.mpr ⟨λz=>n1 (c2 a z),c3 n2⟩
    .intro b hb
     have hb':b∈A i:=by
      rcases mem_cons.mp hb with z |z
      .rw [eA,z];exact mem_cons_self
      .rw [eA];exact mem_cons_of_mem _ (c2 b z)
     exact⟨(e2.new i b hb').1,(e2.new i b hb').2.1⟩
    .intro j hj b hb z
     rcases mem_cons.mp hb with q |q
     .subst q;exact e.dis j i b hj z (by rw[eA];exact mem_cons_self)
     .exact e.dis j i b hj z (by rw[eA];exact mem_cons_of_mem _ (c2 b q))
    .intro b o hb q
     exact Xav (λz=>hb (by rw[eA,z];exact mem_cons_self)) q
  .exact w1.elim
 .exact w.elim
end
section
variable {K:Frag}{c:Str}{ns:List Str}{i:Nat}
end
structure DER where
 nx:Dst->Prop
 rt:D->Dst->Prop
 xr:Str->Dst->Prop
abbrev DSR:=DER->Dst->Prop
section
variable {K:Frag}{F0 H0:Hp}{E:XK}{t u:TS}{T U:DSR}
end
section
variable {P:Program}{w:World}{K:Frag}{mg:Str->Option Value}{base:Heap}{c m q:Str}{ns:List Str}{st:Stmt}{f:Addr}{fd:FuncData}{N ps:List Str}{k n:Nat}
end
abbrev DEf:=Dst->(D->Dst->Prop)->Prop
abbrev DTf:=Dst->(Bool->Dst->Prop)->Prop
section
variable {K:Frag}{ta tb:TE}{Ea Eb:DEf}{Eb':DE}{ua ub:TT}{Ca Cb:DTf}{t u:TS}{T U:DS}
end
section
variable {X:Cx}
end
section
variable {K:Frag}
end
section
variable {P:Program}{w:World}{K:Frag}{mg:Str->Option Value}{base:Heap}{c m q:Str}{ns:List Str}{st:Stmt}{f:Addr}{fd:FuncData}{N ps:List Str}{k n:Nat}
end
section
variable {K:Frag}{h:Heap}{mg:Str->Option Value}{c wx:Str}{C W:Addr}
theorem dnx (X:K.In h)(a:nsIn K mainGlobals c=some (some (.ref C)):=by k_is): nsIn K mainGlobals c=some (some (.ref C)):=a
theorem dxm (X:K.In h)(a:nsIn K mainGlobals c=some (some (.ref C)))(b:nsIn K mainGlobals wx=some (some (.ref W)))(e:exmOne K (.ref C) (.ref W)=some true): ∀d∈[c],∀D,nsIn K mainGlobals d=some (some (.ref D))->exmOne K (.ref D) (.ref W)=some true:=λd hd D hD=>by
 rw[mem_singleton.mp hd,a]at hD
 cases hD
 exact e
theorem Yp5 (X:K.In h)(a:nsIn K mainGlobals c=some (some (.ref C)))(E:PySem.W.ExcK K C)(hx:∀y∈xs,∃D,nsIn K mainGlobals y.1=some (some (.ref D))/\kitOne K (.ref C) (.ref D)=some y.2)(ht:∀y∈ts,kitOne K (.ref C) (.type y.1)=some y.2): ExcV K c xs ts:=⟨⟨C,a,E,hx,ht⟩⟩
theorem t2 (l:K.lookup x=some ⟨.type "tuple",o,.seq #[.int p tp,.int q tq] n,sl⟩)(F:Hp): Rep K F (.tup [.int p,.int q]) (.ref x):=⟨_,[.int p,.int q],rfl,.inr ⟨_,_,_,l,rfl,rfl,Xd0 (show 2<=1000000 by decide),.cons ⟨_,rfl⟩ (.cons ⟨_,rfl⟩ (.nil))⟩,⟨_,_,rfl,rfl,⟨_,_,rfl,rfl,rfl⟩⟩⟩
theorem t5 (l:K.lookup x=some ⟨.type "tuple",o,.seq #[.int p tp,.int q tq,.int r tr,.int u tu,.int v tv] n,sl⟩)(F:Hp): Rep K F (.tup [.int p,.int q,.int r,.int u,.int v]) (.ref x):=⟨_,[.int p,.int q,.int r,.int u,.int v],rfl,.inr ⟨_,_,_,l,rfl,rfl,Xd0 (show 5<=1000000 by decide),.cons ⟨_,rfl⟩ (.cons ⟨_,rfl⟩ (.cons ⟨_,rfl⟩ (.cons ⟨_,rfl⟩ (.cons ⟨_,rfl⟩ (.nil)))))⟩,⟨_,_,rfl,rfl,⟨_,_,rfl,rfl,⟨_,_,rfl,rfl,⟨_,_,rfl,rfl,⟨_,_,rfl,rfl,rfl⟩⟩⟩⟩⟩⟩
end
theorem KitV.of2 {K:Frag}{h:Heap}(X:K.In h)(h:∀d∈[D.int 0,.bl true,.non,.str Str.empty,.tup [],.lst [],.dic],∀n∈Xs0,kitOne K (.type d.tyN) (.type n)=some (Ylq d n)):KitV K:=by
 refine⟨λd ⟨hd,hd2,hd3⟩ n hn=>?_⟩
 cases d with
 |ty m=>exact absurd rfl (hd m)
 |fn m=>exact absurd rfl (hd2 m)
 |exc m=>exact absurd rfl (hd3.1 m)
 |obj c ns ds=>exact absurd rfl (hd3.2 c ns ds)
 |int _=>exact h (.int 0) (by simp) n hn
 |bl _=>exact h (.bl true) (by simp) n hn
 |non=>exact h .non (by simp) n hn
 |str _=>exact h (.str Str.empty) (by simp) n hn
 |tup _=>exact h (.tup []) (by simp) n hn
 |lst _=>exact h (.lst []) (by simp) n hn
 |dic=>exact h .dic (by simp) n hn
end L2
namespace Lw
open PySem L2 PyProof.Rows
def top (i:Nat):Stmt:=PySem.Challenge.pw_liftwave_k48_spoiled_texts.main.body.getD i (.Pass ⟨0,0,0,0⟩)
abbrev vD (d:D):Option Sl:=some (.own (.fz d))
abbrev vI (i:Int):Option Sl:=some (.own (.fz (.int i)))
abbrev vL (ts:List OV):Option Sl:=some (.own (.nl ts))
set_option hygiene false
local macro_rules | `(tactic|walk_at "b")=>`(tactic|first |exact (λ_ _ _ _ _ _ us hl=>match us,hl with | [_],_=>rfl) |exact (λ_ _ _ _ _ _ us hl=>match us,hl with | [_,_],_=>rfl) |exact (λ_ _ _ _ _ _ us hl=>match us,hl with | [_,_,_],_=>rfl) |exact (λ_ _ _ _ _ _ us hl=>match us,hl with | [_,_,_,_],_=>rfl))
local macro_rules | `(tactic|walk_at "S")=>`(tactic|exact⟨rfl,rfl,rfl,by decide +kernel,rfl,by decide +kernel,by decide +kernel⟩)
local macro_rules | `(tactic|fin2)=>`(tactic|simp only[vD,vI,vL,Xeo,Ykp,Ym4,Yeo,Ym5,Ygr,sIf,Ynj,You,Yov,Ynn,Yos,Yg8,Yg9,Ynm,Ynk,Yem,Yi8,Ymi,Yot,gN,Yaq,Xs4,gT,dFz,Yjs,dLf,dV,dB,dC,dOp,dUn,rU1,rI2,Yk0,Yns,Ynp,Ynq,Yhg,D.isNon,dTb,Ypf,Ypk,dOr,dIf,Ymt,Ymk,Yfo,Ymm,Ybl,Yi6,Ybk,Ypb,Yn9,ixL,ixT,ixS,dCB,Yoa,Yn0,Ynz,Yoe,Yid,Yfl,Ync,Yml,dPt,Ype,Ymr,Yfq,Ypi,Ypg,Ymh,Ymg,Yfx,Ymq,Yn4,Ylq,Ypa,Yo3,D.same,Yod,Yic,Yms,Ymd,Ybj,Ymo,Ypc,Ymj,Yfh,Ykm,Ymf,Yej,Ykg,Yn3,Yfj,Ynr,Yfp,Ygs,Ymp,Yme,Xt1,Ynu,Yfm,Yin,Ybi,Yfi,Ybm,Xup,Xtz,Xjd,Yni,Yfn,Ypj,Yg3,Yg5,Yg6,Yg7,Ygu,Yfk,Ymn,Xj2,Xv5,Yi7,Yh7,Yjm,Ynh,Ypd,Yph,OV.val,OV.vals,OV.vals_eq,D.lf,D.lfs,OV.lf,OV.lfs,map_cons,map_nil,cons_append,List.nil_append,length_cons,length_nil,List.replicate,Nat.reduceAdd,Nat.reduceSub,Nat.reduceLeDiff,List.getElem?_cons_zero,getElem?_cons_succ,set_cons_zero,set_cons_succ,Bool.not_true,Bool.not_false,Bool.true_and,Bool.and_true,true_and,and_true,if_true,if_false,false_eq_true,length_map,decide_eq_true_eq,Option.some.injEq,Sl.own.injEq,OV.ob.injEq,exists_eq_left',Yf0,Yl7,Ygi,Yjh,Yps,Ym2,Ypr,Int.reduceLT,Int.reduceLE,Int.reduceNeg,Int.reducePow,Int.reduceToNat,Int.reduceAdd,Int.reduceSub,true_or,or_true,Ylp,Yik,Ydm,Yij,String.reduceBEq,Bool.or_self,Bool.or_false,Bool.not_not,ne_eq,not_true,Yby,Ymz,Ymy,Ymx,Ymw,beq_self_eq_true,Bool.true_or,Bool.or_true])
local macro_rules | `(tactic|gn_on)=>`(tactic| (refine Yeh λN hN=>?_;fin2))
local macro_rules | `(tactic|gp_on)=>`(tactic| (refine hN _ ?_;clear hN;clear N))
set_option hygiene true
section
variable (P:Program)(w:World){K:Frag}{mg:Str->Option Value}(base:Heap)
seal L2.PA L2.PE L2.PS L2.PSs L2.PT L2.PW L2.PG L2.PGs L2.PO L2.PI
def Xtg (b:Bool):Str:=if b then "1" else "0"
theorem Xwe (b:Bool):(Xtg b).length=1:=by cases b<;>rfl
theorem Xv2 {α:Type}:∀l:List α,(List.range l.length).filterMap (λk=>l[k]?)=l
 | []=>rfl
 |a::l=>by
  rw[length_cons,List.range_succ_eq_map,filterMap_cons]
  simp only[List.getElem?_cons_zero]
  rw[filterMap_map]
  have e:((λk=>(a::l)[k]?)∘Nat.succ)=λk=>l[k]?:=by funext k;simp
  rw[e,Xv2 l]
theorem Ydp {n i:Nat}(h:i<=n):Builtin.Str.strSliceIndices (some (i:Int)) none 1 n=(List.range (n-i)).map λk=>i+k:=by
 unfold Builtin.Str.strSliceIndices sliceRange
 have e0:¬ ((i:Int)<0):=by lia
 simp only[e0,if_false,show (1:Int) > 0 by decide,if_true]
 have e:max 0 (min (i:Int) (n:Int))=(i:Int):=by lia
 rw[e]
 have c:(if (i:Int)<(n:Int) then ((n:Int)-(i:Int)+1-1) / 1 else 0).toNat=n-i:=by
  split
  .rw [ediv_one];(clear h e0;lia)
  .lia
 rw[c]
 refine map_congr_left λk _=>?_
 clear h e0;lia
theorem Xpu (x:Str){i:Nat}(h:i<=x.length):Txt.slice x (some (i:Int)) none=⟨(x.cps.toList.drop i).toArray⟩:=by
 have e:((List.range (x.length-i)).map λk=>i+k).filterMap (x.cps[·]?)=x.cps.toList.drop i:=by
  rw[filterMap_map]
  have:=Xv2 (x.cps.toList.drop i)
  rw[length_drop]at this
  rw[<- this]
  refine congrArg (λg=>List.filterMap g _) (funext λk=>?_)
  simp
 unfold Txt.slice
 rw[Ydp h]
 split
 .rename_i c
  have hi:i=0:=by simp at c;lia
  subst hi
  simp
 .rw [e]
def Xbt (bs:List Bool):Str:=Txt.join "" (bs.map Xtg)
theorem Xyk:Xbt []=Str.empty:=rfl
theorem Yf9:(Str.ofString "")=⟨#[]⟩:=by decide +kernel
theorem Xfs (b:Bool)(bs:List Bool):Xbt (b::bs)=Xtg b++Xbt bs:=by
 unfold Xbt
 rw[show ∀l,Txt.join (Str.ofString "") l=Str.join (Str.ofString "") l from λl=>PySem.StrLaws.glued_eq_join _ l,show ∀l,Txt.join (Str.ofString "") l=Str.join (Str.ofString "") l from λl=>PySem.StrLaws.glued_eq_join _ l]
 cases bs with
 |nil=>exact (Str.append_empty _).symm
 |cons c cs=>
  show Xtg b++Str.ofString ""++Str.join (Str.ofString "") (Xtg c::cs.map Xtg)=_
  rw[Yf9,show (Xtg b++(⟨#[]⟩:Str))=Xtg b from Str.append_empty _]
  rfl
theorem Yjg (x y:Str):(x++y).length=x.length+y.length:=by
 show (x.cps++y.cps).size=_
 rw[size_append]
 rfl
theorem Xd1:∀bs:List Bool,(Xbt bs).length=bs.length
 | []=>rfl
 |b::bs=>by rw[Xfs,Yjg,Xd1 bs,Xwe,length_cons];lia
theorem Xrc:∀(as bs:List Bool),Xbt (as++bs)=Xbt as++Xbt bs
 | [],bs=>(Str.empty_append _).symm
 |a::as,bs=>by rw[cons_append,Xfs,Xrc as bs,Xfs,Str.append_assoc]
theorem Ycf (x y:Str):Yb1 (x++y)=Yb1 x++Yb1 y:=by
 show (x.cps++y.cps).toList.map _=_
 rw[Array.toList_append,map_append]
 rfl
theorem Yce (b:Bool):Yb1 (Xtg b)=[Xtg b]:=by cases b<;>decide +kernel
theorem Xpf:∀bs:List Bool,Yb1 (Xbt bs)=bs.map Xtg
 | []=>rfl
 |b::bs=>by rw[Xfs,Ycf,Yce,Xpf bs];rfl
theorem Ydy (b:Bool):decide (Xtg b=Str.ofString "1")=b:=by cases b<;>decide +kernel
theorem Ylz {n i:Nat}(h:i<=n):Builtin.Str.strSliceIndices none (some (i:Int)) 1 n=List.range i:=by
 unfold Builtin.Str.strSliceIndices sliceRange
 have e0:¬ ((i:Int)<0):=by lia
 simp only[e0,if_false,show (1:Int) > 0 by decide,if_true]
 have e:max 0 (min (i:Int) (n:Int))=(i:Int):=by lia
 rw[e]
 have c:(if (0:Int)<(i:Int) then ((i:Int)-0+1-1) / 1 else 0).toNat=i:=by
  split
  .rw [ediv_one];(clear h e0;lia)
  .clear h e0;lia
 rw[c]
 refine ext_getElem? λk=>?_
 by_cases hk:k<i
 .simp
 .simp
theorem Ya7 {α:Type}(l:List α)(h:i<=l.length):(List.range i).filterMap (λk=>l[k]?)=l.take i:=by
 have e:∀n:Nat,n<=l.length->(List.range n).filterMap (λk=>l[k]?)=l.take n:=by
  intro n
  induction n with
  |zero=>intro _;simp
  |succ n ih=>
   intro hn
   rw[range_succ,List.filterMap_append,ih (by lia),take_add_one]
   simp[getElem?_eq_getElem (show n<l.length by lia)]
 exact e i h
theorem Xu1 (x:Str)(h:i<=x.length):Txt.slice x none (some (i:Int))=⟨(x.cps.toList.take i).toArray⟩:=by
 have e:(List.range i).filterMap (x.cps[·]?)=x.cps.toList.take i:=by
  rw[<- Ya7 x.cps.toList (show i<=x.cps.toList.length by rw[length_toList];exact h)]
  simp
 unfold Txt.slice
 rw[Ylz h]
 split
 .rename_i c
  have hi:i=x.length:=by simpa using c
  rw[hi,show x.length=x.cps.toList.length by simp;rfl,take_length]
 .rw [e]
theorem Ycb (bs:List Bool)(h:i<=bs.length):Txt.slice (Xbt bs) none (some (i:Int))=Xbt (bs.take i):=by
 rw[Xu1 _ (by rw[Xd1];exact h)]
 have e:Xbt bs=Xbt (bs.take i)++Xbt (bs.drop i):=by rw[<- Xrc,take_append_drop]
 have hl:(Xbt (bs.take i)).cps.toList.length=i:=by
  have:=Xd1 (bs.take i)
  rw[length_take,Nat.min_eq_left h]at this
  exact this
 rw[e]
 show (⟨(((Xbt (bs.take i)).cps++(Xbt (bs.drop i)).cps).toList.take i).toArray⟩:Str)=_
 rw[Array.toList_append,List.take_append_of_le_length (by lia),take_of_length_le (by lia)]
abbrev tx (l:List Nat):Str:=⟨l.toArray⟩
theorem Xbv (l:List Nat):(tx l).length=l.length:=by show l.toArray.size=_;simp
theorem Xn9 (a b:List Nat):tx a++tx b=tx (a++b):=by
 show Str.mk (a.toArray++b.toArray)=Str.mk _
 simp
theorem Xv4:Str.ofString ""=tx []:=by decide +kernel
theorem Yak:∀ls:List (List Nat),Txt.join (Str.ofString "") (ls.map tx)=tx ls.flatten:=by
 intro ls
 rw[show ∀l,Txt.join (Str.ofString "") l=Str.join (Str.ofString "") l from λl=>PySem.StrLaws.glued_eq_join _ l]
 induction ls with
 |nil=>exact Xv4.symm▸rfl
 |cons a ls ih=>
  cases ls with
  |nil=>
   show tx a=tx ([a].flatten)
   simp
  |cons b ls=>
   show tx a++Str.ofString ""++Str.join (Str.ofString "") ((b::ls).map tx)=_
   rw[ih,Xv4,Xn9,Xn9,append_nil]
   rfl
theorem Ydn (ns:List Nat):Txt.join (Str.ofString "") (ns.map λn=>tx [n])=tx ns:=by
 have:=Yak (ns.map λn=>[n])
 rw[map_map]at this
 rw[show (ns.map λn=>tx [n])=ns.map (tx∘λn=>[n]) from rfl,this]
 congr 1
 clear this
 induction ns with
 |nil=>rfl
 |cons n ns ih=>rw[map_cons,List.flatten_cons,ih];rfl
theorem Xyh:∀(ns:List Nat),((ns.map λn=>tx [n]).map (·.length)).sum=ns.length
 | []=>rfl
 |n::ns=>by rw[map_cons,map_cons,sum_cons,Xyh ns,Xbv,length_cons,length_cons,length_nil];lia
theorem Yio {n i j:Nat}(h:i<=j)(hj:j<=n):Builtin.Str.strSliceIndices (some (i:Int)) (some (j:Int)) 1 n=(List.range (j-i)).map λk=>i+k:=by
 unfold Builtin.Str.strSliceIndices sliceRange
 have e0:¬ ((i:Int)<0):=by lia
 have e1:¬ ((j:Int)<0):=by lia
 simp only[e0,e1,if_false,show (1:Int) > 0 by decide,if_true]
 have e:max 0 (min (i:Int) (n:Int))=(i:Int):=by lia
 have e':max 0 (min (j:Int) (n:Int))=(j:Int):=by lia
 rw[e,e']
 have c:(if (i:Int)<(j:Int) then ((j:Int)-(i:Int)+1-1) / 1 else 0).toNat=j-i:=by
  split
  .rw [ediv_one];lia
  .lia
 rw[c]
 refine map_congr_left λk _=>?_
 omega
theorem Yf1 (x:Str){i j:Nat}(h:i<=j)(hj:j<=x.length):Txt.slice x (some (i:Int)) (some (j:Int))=tx ((x.cps.toList.drop i).take (j-i)):=by
 have e:((List.range (j-i)).map λk=>i+k).filterMap (x.cps[·]?)=(x.cps.toList.drop i).take (j-i):=by
  rw[filterMap_map]
  rw[<- Ya7 (x.cps.toList.drop i) (show j-i<=(x.cps.toList.drop i).length by rw[length_drop,length_toList];have:x.cps.size=x.length:=rfl;lia)]
  refine congrArg (λg=>List.filterMap g _) (funext λk=>?_)
  simp
 unfold Txt.slice
 rw[Yio h hj]
 split
 .rename_i c
  have hc:j-i=x.length:=by simpa using c
  have hi:i=0:=by lia
  subst hi
  rw[drop_zero,hc,take_of_length_le (by rw[length_toList];exact Nat.le_refl _)]
 .rw [e]
abbrev LET:Str:=Str.ofString "abcdefghijklmnop"
abbrev FRS:List Str:=[Str.ofString "0000",Str.ofString "0001",Str.ofString "0010",Str.ofString "0011",Str.ofString "0100",Str.ofString "0101",Str.ofString "0110",Str.ofString "0111",Str.ofString "1000",Str.ofString "1001",Str.ofString "1010",Str.ofString "1011",Str.ofString "1100",Str.ofString "1101",Str.ofString "1110",Str.ofString "1111"]
def bch (b:Bool):Nat:=if b then 49 else 48
abbrev bT (bs:List Bool):Str:=tx (bs.map bch)
abbrev lT (ns:List Nat):Str:=tx (ns.map (97+·))
def wor (a b c d:Bool):Nat:=a.toNat*8+b.toNat*4+c.toNat*2+d.toNat
def pk:List Bool->List Nat
 |a::b::c::d::r=>wor a b c d::pk r
 | []=>[]
 | [a]=>[wor a false false false]
 | [a,b]=>[wor a b false false]
 | [a,b,c]=>[wor a b c false]
def fr (n:Nat):List Bool:=[decide (n / 8%2=1),decide (n / 4%2=1),decide (n / 2%2=1),decide (n%2=1)]
theorem Yae:LET.cps.toList=[97,98,99,100,101,102,103,104,105,106,107,108,109,110,111,112]:=by decide +kernel
theorem Yig:LET.length=16:=by decide +kernel
theorem Yny (h:n<16):n=0∨n=1∨n=2∨n=3∨n=4∨n=5∨n=6∨n=7∨n=8∨n=9∨n=10∨n=11∨n=12∨n=13∨n=14∨n=15:=by lia
theorem Yaf {n:Nat}(h:n<16):atI LET.cps.toList (n:Int)=some (97+n):=by
 rw[Yae]
 refine Xc7 ?_
 rcases Yny h with rfl |rfl |rfl |rfl |rfl |rfl |rfl |rfl |rfl |rfl |rfl |rfl |rfl |rfl |rfl |rfl<;>rfl
theorem Yad {c:Nat}:c∈LET.cps.toList↔97<=c/\c<=112:=by
 rw[Yae]
 simp only[mem_cons,not_mem_nil,or_false]
 omega
theorem Ydj (h:n<16):Txt.find LET (tx [97+n])=(n:Int):=by
 rcases Yny h with rfl |rfl |rfl |rfl |rfl |rfl |rfl |rfl |rfl |rfl |rfl |rfl |rfl |rfl |rfl |rfl<;>decide +kernel
theorem Yl8 {n:Nat}(h:n<16):atI (FRS.map D.str) (n:Int)=some (.str (bT (fr n))):=by
 refine Xc7 ?_
 rcases Yny h with rfl |rfl |rfl |rfl |rfl |rfl |rfl |rfl |rfl |rfl |rfl |rfl |rfl |rfl |rfl |rfl<;>(rw[getElem?_map];refine congrArg (λy=>some (D.str y)) ?_;decide +kernel)
theorem Ya5 (a b c d:Bool):bT [a,b,c,d]∈FRS/\FRS.idxOf (bT [a,b,c,d])=wor a b c d/\wor a b c d<16:=by
 cases a<;>cases b<;>cases c<;>cases d<;>decide +kernel
theorem Xux (a b c d:Bool):wor a b c d<16:=(Ya5 a b c d).2.2
theorem Ycy:∀(bs:List Bool),∀n∈pk bs,n<16
 |a::b::c::d::r=>λn hn=>by
  rcases mem_cons.mp hn with e |e
  .rw [e];exact Xux _ _ _ _
  .exact Ycy r n e
 | []=>λn hn=>by cases hn
 | [a]=>λn hn=>by rw[mem_singleton.mp hn];exact Xux _ _ _ _
 | [a,b]=>λn hn=>by rw[mem_singleton.mp hn];exact Xux _ _ _ _
 | [a,b,c]=>λn hn=>by rw[mem_singleton.mp hn];exact Xux _ _ _ _
def fl (bs:List Bool):List Bool:=bs++List.replicate ((4-bs.length%4)%4) false
theorem Yl9 (bs:List Bool):∃k,(fl bs).length=4*k/\4*k<bs.length+4:=by
 refine⟨(bs.length+3) / 4,?_,by lia⟩
 unfold fl
 rw[length_append,length_replicate]
 omega
theorem Yhl:∀bs:List Bool,pk (fl bs)=pk bs
 |a::b::c::d::r=>by
  have:=Yhl r
  unfold fl at this ⊢
  rw[show (a::b::c::d::r).length=r.length+4 from rfl,show (r.length+4)%4=r.length%4 by lia]
  show wor a b c d::pk (r++_)=wor a b c d::pk r
  rw[this]
 | []=>rfl
 | [a]=>rfl
 | [a,b]=>rfl
 | [a,b,c]=>rfl
theorem Ymu:∀(i:Nat) (l:List Bool),4*i+4<=l.length->∃a b c d,(l.drop (4*i)).take 4=[a,b,c,d]/\(pk l)[i]?=some (wor a b c d)
 |i,[],h=>by simp at h
 |i,[_],h=>by simp at h
 |i,[_,_],h=>by simp at h
 |i,[_,_,_],h=>by simp at h
 | 0,a::b::c::d::r,_=>⟨a,b,c,d,rfl,rfl⟩
 |i+1,a::b::c::d::r,h=>by
  obtain⟨a',b',c',d',h1,h2⟩:=Ymu i r (by simp only[length_cons]at h;lia)
  refine⟨a',b',c',d',?_,h2⟩
  exact h1
theorem Xzi:∀(l:List Bool),(pk l).length=(l.length+3) / 4
 |a::b::c::d::r=>by
  show (pk r).length+1=_
  rw[Xzi r]
  simp only[length_cons]
  lia
 | []=>rfl
 | [a]=>by show 1=_;simp only[length_cons,length_nil]
 | [a,b]=>by show 1=_;simp only[length_cons,length_nil]
 | [a,b,c]=>by show 1=_;simp only[length_cons,length_nil]
def w4 (l:List Bool):Nat->Nat
 | 0=>0
 |k+1=>w4 l k+(if l[k]?=some true then 8 / 2^k else 0)
theorem Xzc:∀m:Nat,m<4->Yhe (Str.ofString "0") m=bT (List.replicate m false)
 | 0,_=>by decide +kernel
 | 1,_=>by decide +kernel
 | 2,_=>by decide +kernel
 | 3,_=>by decide +kernel
 |n+4,h=>by lia
theorem fr_len (ns:List Nat):(ns.flatMap fr).length=4*ns.length:=by
 induction ns with
 |nil=>rfl
 |cons n ns ih=>rw[flatMap_cons,length_append];show 4+_=_;rw[length_cons];lia
abbrev FIG:Str:=Str.ofString "0123456789"
theorem Yi3:FIG.cps.toList=[48,49,50,51,52,53,54,55,56,57]:=by decide +kernel
theorem Ymb (h:48<=c/\c<=57):FIG.cps.contains c=true:=by
 rw[<- Array.contains_toList]
 rcases (show c=48∨c=49∨c=50∨c=51∨c=52∨c=53∨c=54∨c=55∨c=56∨c=57 by lia) with rfl |rfl |rfl |rfl |rfl |rfl |rfl |rfl |rfl |rfl<;>rfl
inductive Dg:Nat->List Nat->Prop
 |one {m:Nat} (h:m<10):Dg m [48+m]
 |more {m:Nat} {l:List Nat} (h:10<=m) (d:Dg (m / 10) l):Dg m (l++[48+m%10])
theorem Dg.ex:∀m:Nat,∃l,Dg m l:=λm=>by
 induction m using Nat.strongRecOn with
 |_ m ih=>
  by_cases h:m<10
  .exact ⟨_,.one h⟩
  .obtain ⟨l,d⟩:=ih (m / 10) (by lia)
   exact⟨_,.more (by lia) d⟩
theorem Dg.dig (d:Dg m l):PySem.NumText.AllDigits l:=by
 induction d with
 |one h=>intro c hc;rw[mem_singleton.mp hc];lia
 |more h d ih=>
  intro c hc
  rcases mem_append.mp hc with z |z
  .exact ih c z
  .rw [mem_singleton.mp z];lia
theorem Dg.val (d:Dg m l):PySem.NumText.digitsVal l=m:=by
 induction d with
 |one h=>show 0*10+(48+_-48)=_;lia
 |more h d ih=>
  unfold PySem.NumText.digitsVal at ih ⊢
  rw[foldl_append]
  show _*10+(48+_%10-48)=_
  lia
theorem Dg.ne (d:Dg m l):0<l.length:=by
 cases d with
 |one h=>exact Nat.one_pos
 |more h d=>rw[length_append];exact Nat.succ_pos _
theorem Dg.len (d:Dg m l):∀k,m<10^(k+1)->l.length<=k+1:=by
 induction d with
 |one h=>intro k _;exact Nat.succ_le_succ (zero_le _)
 | @more m l h d ih=>
  intro k hk
  rw[length_append,length_singleton]
  cases k with
  |zero=>lia
  |succ k=>
   have:=ih k (by rw[pow_succ]at hk;lia)
   lia
theorem Dg.zero (d:Dg m l)(e:l=48::r):m=0/\l=[48]:=by
 induction d generalizing r with
 |one h=>
  have:=(List.cons.inj e).1
  exact⟨by lia,by rw[this]⟩
 | @more m l h d ih=>
  cases l with
  |nil=>exact absurd d.ne (lt_irrefl _)
  |cons c cs=>
   have e1:c=48:=(List.cons.inj e).1
   subst e1
   have:=(ih rfl).1
   lia
theorem Xih {c d:Nat}{l:List Nat}:Txt.startswith (tx (d::l)) (tx [c])=decide (d=c):=by
 show (decide (0+1<=(tx (d::l)).length) && ((tx (d::l)).cps.extract 0 (0+1)==#[c]))=_
 have e:(tx (d::l)).cps.extract 0 (0+1)=#[d]:=by simp
 simp
 rfl
theorem Xmo:Str.ofString "-"=tx [45]:=by decide +kernel
theorem Xx0:Str.ofString "0"=tx [48]:=by decide +kernel
theorem Xyp {d:Nat}{l:List Nat}:Txt.slice (tx (d::l)) (some 1) none=tx l:=by
 rw[show (some (1:Int))=some ((1:Nat):Int) from rfl,Xpu _ (by rw[Xbv];simp)]
 simp
theorem Yd7 {p:Nat->Bool}:∀(l:List Nat),(∀c∈l,p c=true)->l.takeWhile p=l
 | [],_=>rfl
 |c::l,h=>by rw[List.takeWhile_cons,h c mem_cons_self,if_pos rfl,Yd7 l λd hd=>h d (mem_cons_of_mem _ hd)]
theorem Xyj (h:∀c∈l,y.cps.contains c=true):Txt.stripChars (tx l) y=tx []:=by
 have lo:PySem.stripLo y.cps.contains true (tx l)=l.length:=by
  simp only[PySem.stripLo,if_true]
  rw[Yd7 _ h]
 unfold Txt.stripChars Txt.stripBy
 split
 .rename_i z
  unfold PySem.stripSame at z
  rw[lo]at z
  have hx:l.length=0:=by
   have:=(and_eq_true _ _).mp z
   simpa using this.1
  rw[List.length_eq_zero_iff.mp hx]
 .unfold PySem.stripped
  rw[lo]
  show (⟨l.toArray.extract l.length _⟩:Str)=_
  congr 1
  refine Array.eq_empty_of_size_eq_zero ?_
  rw[Array.size_extract]
  simp
  lia
def Xxq (x:Str):Str:=if Txt.startswith x (Str.ofString "-")=true then Txt.slice x (some 1) none else x
def Yjc (x:Str):Bool:=!decide (Txt.stripChars (Xxq x) (Str.ofString "0123456789")=Str.ofString "") || !(decide ((1:Int)<=((Xxq x).length:Int)) && decide (((Xxq x).length:Int)<=4)) || (Txt.startswith (Xxq x) (Str.ofString "0") && !decide (x=Str.ofString "0"))
theorem Xxp {l:List Nat}:Xxq (tx (45::l))=tx l:=by
 unfold Xxq
 rw[Xmo,Xih,if_pos (by decide),Xyp]
theorem Xxo (h:d≠45):Xxq (tx (d::l))=tx (d::l):=by
 unfold Xxq
 rw[Xmo,Xih,if_neg (by simp[h])]
theorem fig_at {r:Nat}(h:r<10):atI FIG.cps.toList (r:Int)=some (48+r):=by
 rw[Yi3]
 refine Xc7 ?_
 rcases (show r=0∨r=1∨r=2∨r=3∨r=4∨r=5∨r=6∨r=7∨r=8∨r=9 by lia) with rfl |rfl |rfl |rfl |rfl |rfl |rfl |rfl |rfl |rfl<;>rfl
theorem Ybp (h:m<10):(Nat.digitChar m).toNat=48+m:=by
 rcases (show m=0∨m=1∨m=2∨m=3∨m=4∨m=5∨m=6∨m=7∨m=8∨m=9 by lia) with rfl |rfl |rfl |rfl |rfl |rfl |rfl |rfl |rfl |rfl<;>rfl
theorem Ybe:∀{m:Nat} {l:List Nat},Dg m l->(Nat.toDigits 10 m).map Char.toNat=l
 |m,_,.one h=>by rw[Nat.toDigits_of_lt_base h,List.map_singleton,Ybp h]
 |m,_,.more h d=>by
  rw[Nat.toDigits_of_base_le (by decide) h,map_append,Ybe d,List.map_singleton,Ybp (Nat.mod_lt _ (by decide))]
theorem Yf8 (d:Dg m l):Str.ofString (toString (m:Int))=tx l:=by
 rw[ PySem.Str.ofString_eq_byList]
 show (⟨((String.ofList (Nat.toDigits 10 m)).toList.map Char.toNat).toArray⟩:Str)=_
 rw[String.toList_ofList,Ybe d]
theorem Yf7 (h:0<m)(d:Dg m l):Str.ofString (toString (-(m:Int)))=tx (45::l):=by
 obtain⟨k,rfl⟩:∃k,m=k+1:=⟨m-1,by lia⟩
 rw[ PySem.Str.ofString_eq_byList]
 show (⟨(("-"++String.ofList (Nat.toDigits 10 (k+1))).toList.map Char.toNat).toArray⟩:Str)=_
 rw[String.toList_append,map_append,String.toList_ofList,String.toList_ofList,Ybe d]
 rfl
def Yh5 (n:Int)(l:List Nat):Prop:=∃r,Dg n.natAbs r/\l=if n<0 then 45::r else r
theorem Yh5.ex (n:Int):∃l,Yh5 n l:=by
 obtain⟨r,d⟩:=Dg.ex n.natAbs
 exact⟨_,r,d,rfl⟩
theorem Yh5.str (h:Yh5 n l):Str.ofString (toString n)=tx l:=by
 obtain⟨r,d,rfl⟩:=h
 by_cases z:n<0
 .rw [if_pos z,<- Yf7 (by omega) d]
  congr 2
  lia
 .rw [if_neg z,<- Yf8 d]
  congr 2
  lia
def jn (c:Nat):List (List Nat)->List Nat
 | []=>[]
 | [w]=>w
 |w::v::ws=>w++c::jn c (v::ws)
theorem Yfr {c:Nat}:∀{w p a b:List Nat},c∉w->c∉p->w++c::a=p++c::b->w=p/\a=b
 | [],[],a,b,_,_,h=>⟨rfl,(List.cons.inj h).2⟩
 | [],y::p,a,b,_,hp,h=>absurd (mem_cons.mpr (.inl (List.cons.inj h).1)) hp
 |x::w,[],a,b,hw,_,h=>absurd (mem_cons.mpr (.inl (List.cons.inj h).1.symm)) hw
 |x::w,y::p,a,b,hw,hp,h=>by
  obtain⟨h1,h2⟩:=List.cons.inj h
  obtain⟨h3,h4⟩:=Yfr (λz=>hw (mem_cons_of_mem _ z)) (λz=>hp (mem_cons_of_mem _ z)) h2
  exact⟨by rw[h1,h3],h4⟩
theorem Ye9 {c:Nat}:∀{ws ps:List (List Nat)},ws≠[]->ps≠[]->(∀w∈ws,c∉w)->(∀p∈ps,c∉p)->jn c ws=jn c ps->ws=ps
 | [],_,h,_,_,_,_=>absurd rfl h
 |_,[],_,h,_,_,_=>absurd rfl h
 | [w],[p],_,_,_,_,h=>by rw[show w=p from h]
 | [w],p::q::ps,_,_,hw,_,h=>absurd (show c∈w by rw[show w=p++c::jn c (q::ps) from h];simp) (hw w mem_cons_self)
 |w::v::ws,[p],_,_,_,hp,h=>absurd (show c∈p by rw[show p=w++c::jn c (v::ws) from h.symm];simp) (hp p mem_cons_self)
 |w::v::ws,p::q::ps,_,_,hw,hp,h=>by
  obtain⟨h1,h2⟩:=Yfr (hw w mem_cons_self) (hp p mem_cons_self) (show w++c::jn c (v::ws)=p++c::jn c (q::ps) from h)
  rw[h1,Ye9 (by simp) (by simp) (λx hx=>hw x (mem_cons_of_mem _ hx)) (λx hx=>hp x (mem_cons_of_mem _ hx)) h2]
theorem Xjr (c:Nat):∀ls:List Str,(Str.join ⟨#[c]⟩ ls).cps.toList=jn c (ls.map λx=>x.cps.toList)
 | []=>rfl
 | [x]=>rfl
 |x::y::r=>by
  show (x++⟨#[c]⟩++Str.join ⟨#[c]⟩ (y::r)).cps.toList=x.cps.toList++c::jn c ((y::r).map λx=>x.cps.toList)
  rw[<- Xjr c (y::r)]
  show ((x.cps++#[c])++(Str.join ⟨#[c]⟩ (y::r)).cps).toList=_
  simp
theorem Xf3 (c:Nat)(ws:List Str)(h0:ws≠[])(h:∀w∈ws,c∉w.cps.toList):Txt.split (Str.join ⟨#[c]⟩ ws) ⟨#[c]⟩=ws:=by
 have e1:=PySem.StrLaws.join_split (Str.join ⟨#[c]⟩ ws) ⟨#[c]⟩
 have e2:=PySem.StrLaws.split_free (Str.join ⟨#[c]⟩ ws) c
 have hp:Txt.split (Str.join ⟨#[c]⟩ ws) ⟨#[c]⟩≠[]:=λz=>by
  have e3:=e1
  rw[z]at e3
  have e4:Txt.split (Str.join ⟨#[c]⟩ ws) ⟨#[c]⟩=[Str.join ⟨#[c]⟩ ws]:=if_pos (by
   rw[or_eq_true]
   exact .inl (decide_eq_true (by rw[<- e3];exact Nat.zero_lt_one)))
  rw[e4]at z
  cases z
 have e4:=congrArg (λx:Str=>x.cps.toList) e1
 simp only[Xjr]at e4
 have e5:=Ye9 (by simpa using hp) (by simpa using h0) (λw hw=>by obtain⟨x,hx,rfl⟩:=mem_map.mp hw;exact e2 x hx) (λw hw=>by obtain⟨x,hx,rfl⟩:=mem_map.mp hw;exact h x hx) e4
 have inj:∀{as bs:List Str},as.map (λx=>x.cps.toList)=bs.map (λx=>x.cps.toList)->as=bs:=λ{as bs} e=>by
  refine List.map_inj_right (f:=λx:Str=>x.cps.toList) (λa b q=>?_) |>.mp e
  obtain⟨a⟩:=a
  congr 1
  exact Array.toList_inj.mp q
 exact inj e5
def Xbd:List Str:=["plane","used","row_ends","walked","ahead"]
structure Pa where
 a:Int
 s:Int
 e:Int
 lo:Int
 hi:Int
def Pa.d (p:Pa):D:=.tup [.int p.a,.int p.s,.int p.e,.tup [.int p.lo,.int p.hi]]
structure Wk where
 pl:Int
 us:Int
 re:List Int
 wk:List Pa
 ah:List Pa
def Wk.ts (w:Wk):List OV:=[.fz (.int w.pl),.fz (.int w.us),.nl (w.re.map λi=>.fz (.int i)),.nl (w.wk.map λp=>.fz p.d),.nl (w.ah.map λp=>.fz p.d)]
def Wk.turn (w:Wk):Wk:=if w.pl-1>=0 then {w with pl:=w.pl-1,ah:=w.wk.reverse,wk:=[]} else {w with pl:=w.pl-1}
def Wk.wake (w:Wk)(p:Pa):Wk:=if p.e-p.s=1 then {w with ah:=w.ah++[⟨2,p.s,p.e,p.lo,p.hi⟩]} else {w with ah:=w.ah++[⟨0,(p.s+p.e) / 2,p.e,p.lo,p.hi⟩,⟨1,p.s,(p.s+p.e) / 2,p.lo,p.hi⟩]}
def Wk.fits (w:Wk):Prop:=w.re.length<900000/\w.wk.length<900000/\w.ah.length<900000
def Xiv:DSp:=λds P=>∃p:Pa,ds=[p.d]/\P (.fz (.bl (decide (p.e-p.s=1))))
def Xho:DSp:=λds P=>∃n:Nat,ds=[.int n]/\n<=5000/\P (.fz (.tup [.int (1-2^n),.int (2^n-1)]))
def Xit:DSp:=λds P=>∃(n:Nat) (b:Bool),ds=[.int n,.bl b]/\n<=5000/\P (.fz (if b then .tup [.int (1-2^n-2^n),.int (-2^n)] else .tup [.int (2^n),.int (2^n+2^n-1)]))
def Xhn:DSp:=λds P=>∃(lo hi:Int) (n:Nat) (b:Bool),ds=[.tup [.int lo,.int hi],.int n,.bl b]/\n<=5000/\P (.fz (if b=decide (lo > 0) then .tup [.int (lo+2^n),.int hi] else .tup [.int lo,.int (hi-2^n)]))
def Xhq:DMo:=λts ds P=>∃w:Wk,ts=w.ts/\w.wk.length<=1000000/\ds=[]/\P w.turn.ts
def Xd4:DMo:=λts ds P=>∃(m:Int) (n:Nat),ts=[]/\ds=[.int m,.int n]/\n<=5000/\P (Wk.turn ⟨n,0,[],[⟨0,0,m,1-2^n,2^n-1⟩],[]⟩).ts
def Xfa:DMo:=λts ds P=>∃(w:Wk) (p:Pa) (lo hi:Int),ts=w.ts/\w.wk.length<1000000/\ds=[p.d,.tup [.int lo,.int hi]]/\P {w with wk:=w.wk++[⟨3,p.s,p.e,lo,hi⟩]:Wk}.ts
def Xhp:DMo:=λts ds P=>∃(w:Wk) (p:Pa),ts=w.ts/\w.ah.length<900000/\ds=[p.d]/\P (w.wake p).ts
def Xcy:DSp:=λds P=>∃w:Wk,ds=[.obj "Walk" Xbd (OV.vals w.ts)]/\P (.fz (.bl (decide (w.pl<0))))
def Wk.walked (w:Wk)(p:Pa):Wk:={w with wk:=w.wk++[p]}
def Wk.calm (w:Wk)(p:Pa):Wk:=if p.a=1 then {w.walked ⟨0,p.s,p.e,1-2^w.pl.toNat,2^w.pl.toNat-1⟩ with ah:=w.ah.dropLast:Wk}.wake (w.ah.getLastD p) else w.walked ⟨0,p.s,p.e,1-2^w.pl.toNat,2^w.pl.toNat-1⟩
def Pa.figured (p:Pa)(n:Nat)(b:Bool):Pa:=if b=decide (p.lo > 0) then ⟨3,p.s,p.e,p.lo+2^n,p.hi⟩ else ⟨3,p.s,p.e,p.lo,p.hi-2^n⟩
def Pa.signed (p:Pa)(n:Nat)(b:Bool):Pa:=if b then ⟨3,p.s,p.e,1-2^n-2^n,-2^n⟩ else ⟨3,p.s,p.e,2^n,2^n+2^n-1⟩
def Wk.step (w:Wk)(ah:List Pa)(p:Pa)(b:Bool):Wk:=
 if p.a=3 then {w with us:=w.us+1,ah:=ah,wk:=w.wk++[p.figured w.pl.toNat b]} else if p.a=2 then {w with us:=w.us+1,ah:=ah,wk:=w.wk++[p.signed w.pl.toNat b]}
 else if b then Wk.wake {w with us:=w.us+1,ah:=ah} p else Wk.calm {w with us:=w.us+1,ah:=ah} p
def Wk.rowEnd (w:Wk):Wk:=if w.ah=[] then Wk.turn {w with re:=w.re++[w.us]} else w
def Xlm:DMo:=λts ds P=>∃(w:Wk) (p:Pa),ts=w.ts/\(w.wk.length<1000000/\w.ah.length<900000)/\ds=[p.d]/\0<=w.pl/\w.pl<=5000/\(p.a=1->w.ah≠[])/\P (w.calm p).ts
def Xhr:DMo:=λts ds P=>∃(w:Wk) (ah:List Pa) (p:Pa) (b:Bool),ts=w.ts/\w.fits/\ds=[.bl b]/\w.ah=ah++[p]/\0<=w.pl/\w.pl<=5000/\(p.a=1->b=false->ah≠[])/\P ((w.step ah p b).rowEnd).ts
theorem Xtn (n:Nat):(1:Int)*2^((n:Int).toNat)=2^n:=by rw[one_mul,toNat_natCast]
theorem Xrj {n:Nat}(h:n<=5000):0<=(n:Int)/\(n:Int)<=1000000/\Int.natAbs 1<2^64:=⟨by lia,by lia,by decide⟩
theorem Xzr (ps:List Pa):(ps.map λp=>OV.fz p.d).map OV.val=ps.map Pa.d:=by rw[map_map];rfl
theorem Yk9 (ps:List Pa):D.lfs (ps.map Pa.d)=true:=by
 rw[D.lfs_eq]
 simp[Pa.d,D.lf,D.lfs]
theorem Yla (p:Pa):p.d.lf=true:=by simp[Pa.d,D.lf,D.lfs]
theorem Yk8 (ps:List Pa):List.map OV.fz (ps.map Pa.d).reverse=ps.reverse.map λp=>OV.fz p.d:=by rw[<- map_reverse,map_map];rfl
theorem Ylb (ps:List Pa)(p:Pa):(ps.map λp=>OV.fz p.d)++[OV.fz p.d]=(ps++[p]).map λp=>OV.fz p.d:=by simp
theorem Xnj (ps:List Pa)(a s e lo hi:Int):(ps.map λp=>OV.fz p.d)++[OV.fz (.tup [.int a,.int s,.int e,.tup [.int lo,.int hi]])]=(ps++[(⟨a,s,e,lo,hi⟩:Pa)]).map λ(p:Pa)=>OV.fz p.d:=Ylb ps ⟨a,s,e,lo,hi⟩
theorem Xsc (p:Pa):p.d = .tup [.int p.a,.int p.s,.int p.e,.tup [.int p.lo,.int p.hi]]:=rfl
abbrev Xgf:Stmt:=top 29
theorem Xom:FnScope ["part"] ["part"] (Xae Xgf):=by walk_at "S"
abbrev Xji:Stmt:=top 30
theorem Xrr:FnScope ["plane"] ["plane"] (Xae Xji):=by walk_at "S"
abbrev Xgb:Stmt:=top 31
theorem Xi2:FnScope ["plane","below","least"] ["plane","below"] (Xae Xgb):=by walk_at "S"
abbrev Xfi:Stmt:=top 32
theorem Xm6:FnScope ["span","plane","figure"] ["span","plane","figure"] (Xae Xfi):=by walk_at "S"
abbrev Xjk:Stmt:=Xgw (top 33) 1
theorem Xrt:FnScope ["self"] ["self"] (Xae Xjk):=by walk_at "S"
abbrev Xet:Stmt:=Xgw (top 33) 0
theorem Xl1:FnScope ["self","many","planes"] ["self","many","planes"] (Xae Xet):=by walk_at "S"
abbrev Xdl:Stmt:=Xgw (top 33) 7
theorem Xj7:FnScope ["self","part","span"] ["self","part","span"] (Xae Xdl):=by walk_at "S"
abbrev Xjj:Stmt:=Xgw (top 33) 8
theorem Xlp:FnScope ["self","part","middle"] ["self","part"] (Xae Xjj):=by walk_at "S"
abbrev Xes:Stmt:=Xgw (top 33) 2
theorem Xl0:FnScope ["self"] ["self"] (Xae Xes):=by walk_at "S"
abbrev Xjm:Stmt:=Xgw (top 33) 9
theorem Xru:FnScope ["self","part"] ["self","part"] (Xae Xjm):=by walk_at "S"
abbrev Xjl:Stmt:=Xgw (top 33) 6
theorem Xlq:FnScope ["self","told","part"] ["self","told"] (Xae Xjl):=by walk_at "S"
theorem Xot (Df:DefAt K mg "part_of_one" Xgf f fd)(B:BltV mg)(KV:KitV K)(Xh5:∃t,mg "END"=some (.int 2 t))(Xcm:∃t,mg "START"=some (.int 1 t)):
  Cal P w K mg base "part_of_one" 1 ["part"] (spV K 1 Xiv):=by
 refine CalV.of Df Xom (by walk_at "b") rfl (λc A o s H E hr=>⟨_,_,(Xaj (Xaz (Xgs Xfk (Xaw Xea (Xba Xbh (pv 0) (Xau (by rfl) Xh5) (λ_ _=>rfl)) (Xba Xbh (pv 0) (Xau (by rfl) Xcm) (λ_ _=>rfl))) Xal (Xbf _)))),
  (Xa2 (Xa0 (Xaq Xfm (Xap (Xaq Xcl (Xca (OpF.b Xbg) Xad (Xap Xah)) (Xca (OpF.b Xbg) Xad (Xap Xah)))) (Xap Xah)))),?_⟩)
 rintro ds Pr ⟨p,rfl,h⟩
 unfold Pa.d
 fin2
 exact h
theorem Xsl (Df:DefAt K mg "calm_span" Xji f fd)(B:BltV mg)(KV:KitV K):
  Cal P w K mg base "calm_span" 1 ["plane"] (spV K 1 Xho):=by
 refine CalV.of Df Xrr (by walk_at "b") rfl (λc A o s H E hr=>⟨_,_,(Xaj (Xaz (Xbw (Xaa (Xaw Xea Xal (Xaw Xi9 Xal (pv 0))) (Xaa (Xaw Xea (Xaw Xi9 Xal (pv 0)) Xal) Xac))))),
  (Xa2 (Xa0 (Xcp (Xab (Xaq Xcl (Xap Xah) (Xap (Xaq Xc5 (Xap Xah) Xad))) (Xab (Xaq Xcl (Xap (Xaq Xc5 (Xap Xah) Xad)) (Xap Xah)) Xam))))),?_⟩)
 rintro ds Pr ⟨n,rfl,hn,h⟩
 fin2
 refine⟨Xrj hn,Xrj hn,?_⟩
 rw[Xtn]
 exact h
theorem Xoq (Df:DefAt K mg "signed_span" Xgb f fd)(B:BltV mg)(KV:KitV K):
  Cal P w K mg base "signed_span" 1 ["plane","below"] (spV K 2 Xit):=by
 refine CalV.of Df Xi2 (by walk_at "b") rfl (λc A o s H E hr=>⟨_,_,(Xag (Xa4 (i:=2) Xi2.nd rfl (Or.inl rfl) (Xaw Xi9 Xal (pv 0)))
   (Xag (Xb0 (Xcv (pv 1)) (Xaj (Xaz (Xbw (Xaa (Xaw Xea (Xaw Xea Xal (pv 2)) (pv 2)) (Xaa (Xw4 Xo5 (pv 2)) Xac))))) Xa8)
   (Xaj (Xaz (Xbw (Xaa (pv 2) (Xaa (Xaw Xea (Xaw Xdj (pv 2) (pv 2)) Xal) Xac))))))),
  (Xao (Xa5 (Xa0 (Xaq Xc5 (Xap Xah) Xad)))
   (Xao (Xcd (Xoe Xai) (Xa2 (Xa0 (Xcp (Xab (Xaq Xcl (Xap (Xaq Xcl (Xap Xah) Xad)) Xad) (Xab (Xpi Xad) Xam))))) Xa7)
   (Xa2 (Xa0 (Xcp (Xab Xai (Xab (Xaq Xcl (Xap (Xaq Xcl Xad Xad)) (Xap Xah)) Xam))))))),?_⟩)
 rintro ds Pr ⟨n,b,rfl,hn,h⟩
 fin2
 refine⟨Xrj hn,?_⟩
 rw[Xtn]
 cases b with
 |true=>rw[if_pos rfl]at h ⊢;exact h
 |false=>rw[if_neg (by decide)]at h ⊢;exact h
theorem Xnl (Df:DefAt K mg "figured_span" Xfi f fd)(B:BltV mg)(KV:KitV K):
  Cal P w K mg base "figured_span" 1 ["span","plane","figure"] (spV K 3 Xhn):=by
 refine CalV.of Df Xm6 (by walk_at "b") rfl (λc A o s H E hr=>⟨_,_,(Xag (Xb0 (Xbb Xfk (pv 2) (Xgs Yc8 (Xba Xbh (pv 0) Xal (λ_ _=>rfl)) Xal (Xbf _)) (Xbf _)) (Xaj (Xaz (Xbw (Xaa (Xaw Xdj (Xba Xbh (pv 0) Xal (λ_ _=>rfl)) (Xaw Xi9 Xal (pv 1))) (Xaa (Xba Xbh (pv 0) Xal (λ_ _=>rfl)) Xac))))) Xa8)
   (Xaj (Xaz (Xbw (Xaa (Xba Xbh (pv 0) Xal (λ_ _=>rfl)) (Xaa (Xaw Xea (Xba Xbh (pv 0) Xal (λ_ _=>rfl)) (Xaw Xi9 Xal (pv 1))) Xac)))))),
  (Xao (Xcd (Xa9 (Xaq Xfm Xad (Xap (Xaq Xhf (Xca (OpF.b Xbg) Xad (Xap Xah)) (Xap Xah))))) (Xa2 (Xa0 (Xcp (Xab (Xaq Xcl (Xca (OpF.b Xbg) Xad (Xap Xah)) (Xap (Xaq Xc5 (Xap Xah) Xad))) (Xab (Xbo Xbg Xai Xah) Xam))))) Xa7)
   (Xa2 (Xa0 (Xcp (Xab (Xbo Xbg Xai Xah) (Xab (Xaq Xcl (Xca (OpF.b Xbg) Xad (Xap Xah)) (Xap (Xaq Xc5 (Xap Xah) Xad))) Xam)))))),?_⟩)
 rintro ds Pr ⟨lo,hi,n,b,rfl,hn,h⟩
 fin2
 rw[Xtn]
 split at h
 .rename_i c;rw[if_pos c];exact⟨Xrj hn,h⟩
 .rename_i c;rw[if_neg c];exact⟨Xrj hn,h⟩
theorem Xsn (Df:MetAt K "Walk" "turn" "Walk.turn" Xjk f fd)(B:BltV mg)(KV:KitV K)(CV_Walk:ClsV K "Walk" Xbd):
  CalM P w K mg base "Walk" "turn" 1 ["self"] (spM K 1 "Walk" Xbd Xhq):=by
 refine CalM.of Df Xrt (by walk_at "b") rfl (λc A o s H E hr=>⟨_,_,(Xag (Xr4 (pv 0) Xal Ylx)
   (Xaj (Xb0 (Xbb Yhv (Xc9 (pv 0) rfl) Xal (Xbf _)) (Xag (Xng (pv 0) (Xw5 rfl B.list rfl B.reversed (Xaa (Xc9 (pv 0) rfl) Xac)) rfl)
   (Xaj (Xng (pv 0) (Xbm Xac) rfl))) Xa8))),
  (Xao (Xyy (j:=0) (g:=λx y=>x-y) CV_Walk (by rfl) (λx y H Q q=>⟨_,_,rfl,rfl,q⟩) (Xap Xah))
   (Xcd (Xa9 (Xaq Xhf (Xhd (j:=0) CV_Walk (by rfl) Xad) (Xap Xah))) (Xao (Xyw (j:=4) CV_Walk (by rfl) (Xwz (Xaf (Xhd (j:=3) CV_Walk (by rfl) Xad) Xan)))
   (Xyw (j:=3) CV_Walk (by rfl) (Xb3 Xbn))) Xa7)),?_⟩)
 rintro a ts ds Pr ⟨w,rfl,hf,rfl,h⟩
 unfold Wk.ts
 fin2
 rw[Xzr,Yk8]
 unfold Wk.turn at h
 split at h
 .rename_i c
  rw[if_pos c]
  exact⟨by decide,Yk9 _,hf,by decide,h⟩
 .rename_i c
  rw[if_neg c]
  exact h
theorem Xl7 (Df:Fun K "__init__" "Walk.__init__" Xet f fd)(Mf:MakAt K mg "Walk" f)(B:BltV mg)(KV:KitV K)(CV_Walk:ClsV K "Walk" Xbd)(Xei:∃t,mg "WAKING"=some (.int 0 t))(Xdq:Cal P w K mg base "calm_span" 1 ["plane"] (spV K 1 Xho))(Xds:CalM P w K mg base "Walk" "turn" 1 ["self"] (spM K 1 "Walk" Xbd Xhq)):
  CalK P w K mg base "Walk" 2 ["self","many","planes"] (spM K 3 "Walk" Xbd Xd4):=by
 refine CalK.of Df Mf Xl1 (by walk_at "b") rfl (λc A o s H E hr=>⟨_,_,(Xag (Xng (pv 0) (pv 2) rfl)
   (Xag (Xng (pv 0) Xal rfl)
   (Xag (Xng (pv 0) (Xbm Xac) rfl)
   (Xag (Xng (pv 0) (Xbm (Xaa (Xbw (Xaa (Xau (by rfl) Xei) (Xaa Xal (Xaa (pv 1) (Xaa (Xa6 Xdq (hr.mono (by decide)) (by rfl) (Xaa (pv 2) Xac)) Xac))))) Xac)) rfl)
   (Xag (Xng (pv 0) (Xbm Xac) rfl)
   (Xaj (Xbs (Xin Xds (hr.mono (by decide)) (pv 0))))))))),
  (Xao (Xnc (j:=0) CV_Walk (by rfl) (Xa0 Xai))
   (Xao (Xnc (j:=1) CV_Walk (by rfl) (Xa0 Xah))
   (Xao (Xnc (j:=2) CV_Walk (by rfl) (Xb3 Xbn))
   (Xao (Xnc (j:=3) CV_Walk (by rfl) (Xb3 (Xak (Xa0 (Xcp (Xab Xah (Xab Xah (Xab Xai (Xab (Xby (Xa1 (Xab Xai Xam))) Xam)))))) Xbn)))
   (Xao (Xnc (j:=4) CV_Walk (by rfl) (Xb3 Xbn))
   (Xgn CV_Walk (by decide +kernel) Xam)))))),?_⟩)
 rintro a ts ds Pr ⟨m,n,rfl,rfl,hn,h⟩
 fin2
 refine⟨n,rfl,hn,?_⟩
 fin2
 refine⟨⟨n,0,[],[⟨0,0,m,1-2^n,2^n-1⟩],[]⟩,rfl,(by show 1<=1000000;decide),rfl,?_⟩
 exact h
theorem Xkl (Df:MetAt K "Walk" "walk_awake" "Walk.walk_awake" Xdl f fd)(B:BltV mg)(KV:KitV K)(CV_Walk:ClsV K "Walk" Xbd)(Xej:∃t,mg "FIGURE"=some (.int 3 t))(Xcm:∃t,mg "START"=some (.int 1 t))(Xh5:∃t,mg "END"=some (.int 2 t)):
  CalM P w K mg base "Walk" "walk_awake" 1 ["self","part","span"] (spM K 3 "Walk" Xbd Xfa):=by
 refine CalM.of Df Xj7 (by walk_at "b") rfl (λc A o s H E hr=>⟨_,_,(Xaj (Xbs (Xdb plainAttrs_list PySem.F.slot_list_append PySem.F.type_list_append Xcb (Xc9 (pv 0) rfl) (Xaa (Xbw (Xaa (Xau (by rfl) Xej) (Xaa (Xba Xbh (pv 1) (Xau (by rfl) Xcm) (λ_ _=>rfl)) (Xaa (Xba Xbh (pv 1) (Xau (by rfl) Xh5) (λ_ _=>rfl)) (Xaa (pv 2) Xac))))) Xac)))),
  (Xk0 (j:=3) CV_Walk (by rfl) (Xa0 (Xcp (Xab Xah (Xab (Xbo Xbg Xai Xah) (Xab (Xbo Xbg Xai Xah) (Xab Xai Xam))))))),?_⟩)
 rintro a ts ds Pr ⟨w,p,lo,hi,rfl,hf,rfl,h⟩
 rw[Xsc]
 unfold Wk.ts
 fin2
 rw[Xnj]
 exact⟨hf,h⟩
theorem Xsm (Df:MetAt K "Walk" "wake" "Walk.wake" Xjj f fd)(B:BltV mg)(KV:KitV K)(CV_Walk:ClsV K "Walk" Xbd)(Xkr:∃t,mg "SIGN"=some (.int 2 t))(Xei:∃t,mg "WAKING"=some (.int 0 t))(Xck:∃t,mg "WAKING_FIRST"=some (.int 1 t))(Xcm:∃t,mg "START"=some (.int 1 t))(Xh5:∃t,mg "END"=some (.int 2 t))(Xlw:∃t,mg "SPAN"=some (.int 3 t))(Xg3:Cal P w K mg base "part_of_one" 1 ["part"] (spV K 1 Xiv)):
  CalM P w K mg base "Walk" "wake" 2 ["self","part"] (spM K 2 "Walk" Xbd Xhp):=by
 refine CalM.of Df Xlp (by walk_at "b") rfl (λc A o s H E hr=>⟨_,_,(Xaj (Xb0 (Xcv (Xa6 Xg3 (hr.mono (by decide)) (by rfl) (Xaa (pv 1) Xac))) (Xaj (Xbs (Xdb plainAttrs_list PySem.F.slot_list_append PySem.F.type_list_append Xcb (Xc9 (pv 0) rfl) (Xaa (Xbw (Xaa (Xau (by rfl) Xkr) (Xaa (Xba Xbh (pv 1) (Xau (by rfl) Xcm) (λ_ _=>rfl)) (Xaa (Xba Xbh (pv 1) (Xau (by rfl) Xh5) (λ_ _=>rfl)) (Xaa (Xba Xbh (pv 1) (Xau (by rfl) Xlw) (λ_ _=>rfl)) Xac))))) Xac)))) (Xag (Xa4 (i:=2) Xlp.nd rfl (Or.inl rfl) (Xaw Xdm (Xaw Xdj (Xba Xbh (pv 1) (Xau (by rfl) Xcm) (λ_ _=>rfl)) (Xba Xbh (pv 1) (Xau (by rfl) Xh5) (λ_ _=>rfl))) Xal))
   (Xag (Xbs (Xdb plainAttrs_list PySem.F.slot_list_append PySem.F.type_list_append Xcb (Xc9 (pv 0) rfl) (Xaa (Xbw (Xaa (Xau (by rfl) Xei) (Xaa (pv 2) (Xaa (Xba Xbh (pv 1) (Xau (by rfl) Xh5) (λ_ _=>rfl)) (Xaa (Xba Xbh (pv 1) (Xau (by rfl) Xlw) (λ_ _=>rfl)) Xac))))) Xac)))
   (Xaj (Xbs (Xdb plainAttrs_list PySem.F.slot_list_append PySem.F.type_list_append Xcb (Xc9 (pv 0) rfl) (Xaa (Xbw (Xaa (Xau (by rfl) Xck) (Xaa (Xba Xbh (pv 1) (Xau (by rfl) Xcm) (λ_ _=>rfl)) (Xaa (pv 2) (Xaa (Xba Xbh (pv 1) (Xau (by rfl) Xlw) (λ_ _=>rfl)) Xac))))) Xac)))))))),
  (Xcd (Xoe (Xby (Xa1 (Xab Xai Xam)))) (Xk0 (j:=4) CV_Walk (by rfl) (Xa0 (Xcp (Xab Xah (Xab (Xbo Xbg Xai Xah) (Xab (Xbo Xbg Xai Xah) (Xab (Xbo Xbg Xai Xah) Xam))))))) (Xao (Xa5 (Xa0 (Xaq Xc5 (Xap (Xaq Xcl (Xca (OpF.b Xbg) Xad (Xap Xah)) (Xca (OpF.b Xbg) Xad (Xap Xah)))) (Xap Xah))))
   (Xao (Xk0 (j:=4) CV_Walk (by rfl) (Xa0 (Xcp (Xab Xah (Xab Xai (Xab (Xbo Xbg Xai Xah) (Xab (Xbo Xbg Xai Xah) Xam)))))))
   (Xk0 (j:=4) CV_Walk (by rfl) (Xa0 (Xcp (Xab Xah (Xab (Xbo Xbg Xai Xah) (Xab Xai (Xab (Xbo Xbg Xai Xah) Xam)))))))))),?_⟩)
 rintro a ts ds Pr ⟨w,p,rfl,hf,rfl,h⟩
 rw[Xsc]
 unfold Wk.ts
 fin2
 refine⟨p,rfl,?_⟩
 have hl:=hf
 unfold Wk.wake at h
 fin2
 split at h
 .rename_i c
  rw[if_pos c,Xnj]
  exact⟨by lia,h⟩
 .rename_i c
  rw[if_neg c,Xnj,Xnj]
  refine⟨by lia,by simp;lia,?_⟩
  rw[append_assoc]
  exact h
theorem Xl6 (Df:MetAt K "Walk" "is_whole" "Walk.is_whole" Xes f fd)(B:BltV mg)(KV:KitV K)(CV_Walk:ClsV K "Walk" Xbd):
  CalM P w K mg base "Walk" "is_whole" 1 ["self"] (spV K 1 Xcy):=by
 refine CalP.of Df Xl0 (by walk_at "b") rfl (λc A o s H E hr=>⟨_,_,(Xaj (Xaz (Xgs Xt9 (Xc9 (pv 0) rfl) Xal (Xbf _)))),
  (Xa2 (Xa0 (Xaq Xhf (Xhd (j:=0) CV_Walk (by rfl) Xad) (Xap Xah)))),?_⟩)
 rintro ds Pr ⟨w,rfl,h⟩
 unfold Wk.ts
 fin2
 exact h
theorem Xsp (Df:MetAt K "Walk" "calm" "Walk.calm" Xjm f fd)(B:BltV mg)(KV:KitV K)(CV_Walk:ClsV K "Walk" Xbd)(Xck:∃t,mg "WAKING_FIRST"=some (.int 1 t))(Xei:∃t,mg "WAKING"=some (.int 0 t))(Xh6:∃t,mg "ASKS"=some (.int 0 t))(Xcm:∃t,mg "START"=some (.int 1 t))(Xh5:∃t,mg "END"=some (.int 2 t))(Xdq:Cal P w K mg base "calm_span" 1 ["plane"] (spV K 1 Xho))(Xdr:CalM P w K mg base "Walk" "wake" 2 ["self","part"] (spM K 2 "Walk" Xbd Xhp)):
  CalM P w K mg base "Walk" "calm" 3 ["self","part"] (spM K 2 "Walk" Xbd Xlm):=by
 refine CalM.of Df Xru (by walk_at "b") rfl (λc A o s H E hr=>⟨_,_,(Xag (Xbs (Xdb plainAttrs_list PySem.F.slot_list_append PySem.F.type_list_append Xcb (Xc9 (pv 0) rfl) (Xaa (Xbw (Xaa (Xau (by rfl) Xei) (Xaa (Xba Xbh (pv 1) (Xau (by rfl) Xcm) (λ_ _=>rfl)) (Xaa (Xba Xbh (pv 1) (Xau (by rfl) Xh5) (λ_ _=>rfl)) (Xaa (Xa6 Xdq (hr.mono (by decide)) (by rfl) (Xaa (Xc9 (pv 0) rfl) Xac)) Xac))))) Xac)))
   (Xaj (Xb0 (Xbb Xfk (Xba Xbh (pv 1) (Xau (by rfl) Xh6) (λ_ _=>rfl)) (Xau (by rfl) Xck) (Xbf _)) (Xaj (Xbs (Xh1 Xdr (hr.mono (by decide)) (pv 0) (Xaa (Xzo plainAttrs_list slot_list_pop type_list_pop Ye1 (Xc9 (pv 0) rfl)) Xac)))) Xa8))),
  (Xao (Xk0 (j:=3) CV_Walk (by rfl) (Xa0 (Xcp (Xab Xah (Xab (Xbo Xbg Xai Xah) (Xab (Xbo Xbg Xai Xah) (Xab (Xby (Xil (Xaf (Xhd (j:=0) CV_Walk (by rfl) Xad) Xan))) Xam)))))))
   (Xcd (Xa9 (Xaq Xfm (Xca (OpF.b Xbg) Xad (Xap Xah)) (Xap Xah))) (Xww (j:=4) CV_Walk (by rfl) (by decide +kernel)) Xa7)),?_⟩)
 rintro a ts ds Pr ⟨w,p,rfl,hf,rfl,h1,h2,hne,h⟩
 rw[Xsc]
 unfold Wk.ts
 fin2
 refine⟨hf.1,w.pl.toNat,by rw[toNat_of_nonneg h1],by lia,?_⟩
 fin2
 rw[Xnj]
 unfold Wk.calm at h
 split at h
 .rename_i c
  rw[if_pos c]
  obtain⟨ah,q,e⟩:∃ah q,w.ah=ah++[q]:=⟨_,_,(List.dropLast_concat_getLast (hne c)).symm⟩
  rw[e]at h ⊢
  rw[dropLast_concat,getLastD_concat]at h
  unfold Xp7
  fin2
  refine⟨ah.map λp=>OV.fz p.d,q.d,by rw[map_append];rfl,?_⟩
  refine⟨{w.walked ⟨0,p.s,p.e,1-2^w.pl.toNat,2^w.pl.toNat-1⟩ with ah:=ah},q,rfl,?_,rfl,h⟩
  have:=hf.2
  rw[e,length_append]at this
  show ah.length<900000
  lia
 .rename_i c
  rw[if_neg c]
  exact h
theorem Xso (Df:MetAt K "Walk" "take" "Walk.take" Xjl f fd)(B:BltV mg)(KV:KitV K)(CV_Walk:ClsV K "Walk" Xbd)(Xej:∃t,mg "FIGURE"=some (.int 3 t))(Xh6:∃t,mg "ASKS"=some (.int 0 t))(Xkr:∃t,mg "SIGN"=some (.int 2 t))(Xlw:∃t,mg "SPAN"=some (.int 3 t))(Ye0:Xq8 K mg "told")(Xct:CalM P w K mg base "Walk" "walk_awake" 1 ["self","part","span"] (spM K 3 "Walk" Xbd Xfa))(Xfp:Cal P w K mg base "figured_span" 1 ["span","plane","figure"] (spV K 3 Xhn))(Xg1:Cal P w K mg base "signed_span" 1 ["plane","below"] (spV K 2 Xit))(Xdr:CalM P w K mg base "Walk" "wake" 2 ["self","part"] (spM K 2 "Walk" Xbd Xhp))(Xjw:CalM P w K mg base "Walk" "calm" 3 ["self","part"] (spM K 2 "Walk" Xbd Xlm))(Xds:CalM P w K mg base "Walk" "turn" 1 ["self"] (spM K 1 "Walk" Xbd Xhq)):
  CalM P w K mg base "Walk" "take" 4 ["self","told"] (spM K 2 "Walk" Xbd Xhr):=by
 refine CalM.of Df Xlq (by walk_at "b") rfl (λc A o s H E hr=>⟨_,_,(Xag (Xa4 (i:=2) Xlq.nd rfl (Or.inl rfl) (Xzo plainAttrs_list slot_list_pop type_list_pop Ye1 (Xc9 (pv 0) rfl)))
   (Xag (Xr4 (pv 0) Xal Yly)
   (Xag (Xb0 (Xbb Xfk (Xba Xbh (pv 2) (Xau (by rfl) Xh6) (λ_ _=>rfl)) (Xau (by rfl) Xej) (Xbf _)) (Xaj (Xbs (Xh1 Xct (hr.mono (by decide)) (pv 0) (Xaa (pv 2) (Xaa (Xa6 Xfp (hr.mono (by decide)) (by rfl) (Xaa (Xba Xbh (pv 2) (Xau (by rfl) Xlw) (λ_ _=>rfl)) (Xaa (Xc9 (pv 0) rfl) (Xaa (pv 1) Xac)))) Xac))))) (Xaj (Xb0 (Xbb Xfk (Xba Xbh (pv 2) (Xau (by rfl) Xh6) (λ_ _=>rfl)) (Xau (by rfl) Xkr) (Xbf _)) (Xaj (Xbs (Xh1 Xct (hr.mono (by decide)) (pv 0) (Xaa (pv 2) (Xaa (Xa6 Xg1 (hr.mono (by decide)) (by rfl) (Xaa (Xc9 (pv 0) rfl) (Xaa (pv 1) Xac))) Xac))))) (Xaj (Xb0 (Xcv (pv 1)) (Xaj (Xbs (Xh1 Xdr (hr.mono (by decide)) (pv 0) (Xaa (pv 2) Xac)))) (Xaj (Xbs (Xh1 Xjw (hr.mono (by decide)) (pv 0) (Xaa (pv 2) Xac)))))))))
   (Xaj (Xb0 (Xey (Ycu (Xc9 (pv 0) rfl) (λ_=>rfl))) (Xag (Xbs (Xdb plainAttrs_list PySem.F.slot_list_append PySem.F.type_list_append Xcb (Xc9 (pv 0) rfl) (Xaa (Xc9 (pv 0) rfl) Xac)))
   (Xaj (Xbs (Xin Xds (hr.mono (by decide)) (pv 0))))) Xa8))))),
  (Xao (Ygo (j:=4) CV_Walk (by rfl))
   (Xao (Xyy (j:=1) (g:=λx y=>x+y) CV_Walk (by rfl) (λx y H Q q=>⟨_,_,rfl,rfl,q⟩) (Xap Xah))
   (Xao (Xcd (Xa9 (Xaq Xfm (Xca (OpF.b Xbg) Xad (Xap Xah)) (Xap Xah))) (Xgn CV_Walk (by decide +kernel) (Xab Xai (Xab (Xby (Xil (Xaf (Xca (OpF.b Xbg) Xad (Xap Xah)) (Xaf (Xhd (j:=0) CV_Walk (by rfl) Xad) (Xaf Xad Xan))))) Xam))) (Xcd (Xa9 (Xaq Xfm (Xca (OpF.b Xbg) Xad (Xap Xah)) (Xap Xah))) (Xgn CV_Walk (by decide +kernel) (Xab Xai (Xab (Xby (Xil (Xaf (Xhd (j:=0) CV_Walk (by rfl) Xad) (Xaf Xad Xan)))) Xam))) (Xcd (Xoe Xai) (Xgn CV_Walk (by decide +kernel) (Xab Xai Xam)) (Xgn CV_Walk (by decide +kernel) (Xab Xai Xam)))))
   (Xcd (Xeu (Ych (Xhd (j:=4) CV_Walk (by rfl) Xad))) (Xao (Xk0 (j:=2) CV_Walk (by rfl) (Xa0 (Yco (Xhd (j:=1) CV_Walk (by rfl) Xad))))
   (Xgn CV_Walk (by decide +kernel) Xam)) Xa7)))),?_⟩)
 rintro a ts ds Pr ⟨w,ah,p,b,rfl,hf,rfl,e,h1,h2,hne,h⟩
 unfold Wk.ts
 gn_on
 unfold Yg4
 fin2
 refine⟨ah.map λp=>OV.fz p.d,p.d,by rw[e,map_append];rfl,?_⟩
 gp_on
 gn_on
 gp_on
 gn_on
 rw[Xsc]
 fin2
 have hah:ah.length<900000:=by
  have:=hf.2.2
  rw[e,length_append]at this
  lia
 have hwk:w.wk.length<900000:=hf.2.1
 have hre:w.re.length<900000:=hf.1
 have ep:((w.pl.toNat:Nat):Int)=w.pl:=toNat_of_nonneg h1
 have hsl:(w.step ah p b).wk.length<=w.wk.length+1/\(w.step ah p b).re=w.re:=by
  unfold Wk.step Wk.calm Wk.wake Wk.walked
  repeat (any_goals split)
  all_goals simp
 have fin:N [some (Sl.own (OV.ob (some a) (Str.ofString "Walk") Xbd (w.step ah p b).ts)),some (Sl.own (OV.fz (D.bl b))),some (Sl.own (OV.fz (D.tup [D.int p.a,D.int p.s,D.int p.e,D.tup [D.int p.lo,D.int p.hi]])))]:=by
  gp_on
  generalize w.step ah p b=v at h hsl ⊢
  unfold Wk.ts
  fin2
  unfold Wk.rowEnd at h
  split at h
  .rename_i c
   rw[if_pos (by rw[c];rfl)]
   exact⟨by rw[hsl.2];lia,{v with re:=v.re++[v.us]},rfl,by show v.wk.length<=1000000;lia,rfl,h⟩
  .rename_i c
   rw[if_neg (by simpa using c)]
   exact h
 unfold Wk.step at fin
 split
 .rename_i c
  rw[if_pos c]at fin
  refine⟨p.lo,p.hi,w.pl.toNat,b,by rw[ep],by lia,?_⟩
  unfold Pa.figured at fin
  by_cases hb:b=decide (p.lo > 0)
  .simp only[if_pos hb]at fin ⊢
   exact⟨rfl,{w with us:=w.us+1,ah:=ah},p,_,_,rfl,by show w.wk.length<1000000;lia,rfl,fin⟩
  .simp only[if_neg hb]at fin ⊢
   exact⟨rfl,{w with us:=w.us+1,ah:=ah},p,_,_,rfl,by show w.wk.length<1000000;lia,rfl,fin⟩
 .rename_i c
  rw[if_neg c]at fin
  split
  .rename_i c2
   rw[if_pos c2]at fin
   refine⟨w.pl.toNat,b,by rw[ep],by lia,?_⟩
   unfold Pa.signed at fin
   by_cases hb:b=true
   .simp only[if_pos hb]at fin ⊢
    exact⟨rfl,{w with us:=w.us+1,ah:=ah},p,_,_,rfl,by show w.wk.length<1000000;lia,rfl,fin⟩
   .simp only[if_neg hb]at fin ⊢
    exact⟨rfl,{w with us:=w.us+1,ah:=ah},p,_,_,rfl,by show w.wk.length<1000000;lia,rfl,fin⟩
  .rename_i c2
   rw[if_neg c2]at fin
   split
   .rename_i c3
    rw[if_pos c3]at fin
    exact⟨{w with us:=w.us+1,ah:=ah},p,rfl,hah,rfl,fin⟩
   .rename_i c3
    rw[if_neg c3]at fin
    exact⟨{w with us:=w.us+1,ah:=ah},p,rfl,⟨by show w.wk.length<1000000;lia,hah⟩,rfl,h1,h2,λz=>hne z (by simpa using c3),fin⟩
abbrev Xfc:Stmt:=top 37
theorem Xp2:FnScope ["some"] ["some"] (Xae Xfc):=by walk_at "S"
def Xf5:DSp:=λds P=>∃xs:List Int,ds=[.lst (xs.map .int)]/\xs.length<=1000000/\P (.nl (xs.map λx=>.fz (.int (ibN x))))
theorem Xqp (Df:DefAt K mg "heights_of" Xfc f fd)(B:BltV mg)(KV:KitV K):
  Cal P w K mg base "heights_of" 1 ["some"] (spV K 1 Xf5):=by
 refine CalV.of Df Xp2 (by walk_at "b") rfl (λc A o s H E hr=>⟨_,_,(Xaj (Xaz (Xd6 rfl (Xfj (pv 0)) (show BlkScope (Xae Xfc) _ from⟨rfl,by decide +kernel,by decide +kernel,by decide +kernel⟩) (N:=["number"]) (ix:=[none]) (show Xb2 _ _ _ _ from trivial) (λ_ _ _=>(Xbc (i:=0) (show List.Nodup (["number"]:List Str) by decide +kernel) rfl (Or.inl rfl))) (λ_ _ _=>(Xzo PySem.F.plainAttrs_int PySem.F.slot_int_bit_length PySem.F.type_int_bit_length Yia (Xar Xwc (by rfl) B.abs boot_abs (Xaa (pv 0) Xac))))))),
  (Xa2 (Xc4 (Xgq Xai) Xbe (Xa0 (Yg2 (Xap (Xbl Yfw (Xaf Xad Xan))))))),?_⟩)
 rintro ds Pr ⟨xs,rfl,hx,k⟩
 fin2
 refine Xmu.map xs D.int (λx=>.fz (.int (ibN x))) hx (λx _ Q q=>?_) k
 fin2
 rw[Yiq]
 exact q
def Xmr (xs:List Int)(n:Int)(p:Pa):Bool:=
 if p.a=3 then decide ((xs.getD p.s.toNat 0).natAbs / 2^n.toNat%2=1) else if p.a=2 then decide (xs.getD p.s.toNat 0<0)
 else ((xs.drop p.s.toNat).take (p.e.toNat-p.s.toNat)).any λx=>decide (n<(ibN x:Int))
def Ypl (xs:List Int)(p:Pa):Prop:=0<=p.s/\p.s<p.e/\p.e<=(xs.length:Int)
theorem Yoc (a:Nat):Builtin.bitAnd (a:Int) 1=((a%2:Nat):Int):=by
 unfold Builtin.bitAnd
 rw[decide_eq_true (by lia:0<=(a:Int)),decide_eq_true (by lia:(0:Int)<=1)]
 rw[toNat_natCast,show (1:Int).toNat=1 from rfl,Nat.and_one_is_mod]
theorem Ybx (a k:Nat):Builtin.bitAnd ((a:Int) / 2^k) 1=((a / 2^k%2:Nat):Int):=by
 rw[<- Yoc]
 congr 1
theorem Yi9 (h0:0<=i)(h1:i<=j)(h2:j<=(xs.length:Int)):L2.Yfs xs (some i) (some j)=(xs.drop i.toNat).take (j.toNat-i.toNat):=by
 unfold L2.Yfs
 have e1:HT.sIx xs.length 0 (some i)=i.toNat:=by
  have:=HT.sIx_nat xs.length 0 i.toNat
  rw[toNat_of_nonneg h0]at this
  rw[this];lia
 have e2:HT.sIx xs.length xs.length (some j)=j.toNat:=by
  have:=HT.sIx_nat xs.length xs.length j.toNat
  rw[toNat_of_nonneg (by lia)]at this
  rw[this];(clear h0 h1 e1;lia)
 rw[e1,e2]
inductive Tell (xs:List Int):Wk->List Bool->Prop
 |done {w:Wk} (h:w.pl<0):Tell xs w []
 |step {w:Wk} {ah:List Pa} {p:Pa} {bs:List Bool} (h:0<=w.pl) (h5:w.pl<=5000) (hf:w.fits) (e:w.ah=ah++[p]) (hp:Ypl xs p) (h1:p.a=1->Xmr xs w.pl p=false->ah≠[]) (t:Tell xs ((w.step ah p (Xmr xs w.pl p)).rowEnd) bs):Tell xs w (Xmr xs w.pl p::bs)
def Xj6:DSp:=λds P=>∃(w:Wk) (ah:List Pa) (p:Pa),ds=[.obj "Walk" Xbd (OV.vals w.ts)]/\w.ah=ah++[p]/\w.fits/\P (.fz p.d)
abbrev Xhw:Stmt:=Xgw (top 33) 3
theorem Xp3:FnScope ["self"] ["self"] (Xae Xhw):=by walk_at "S"
theorem Xqq (Df:MetAt K "Walk" "asked" "Walk.asked" Xhw f fd)(B:BltV mg)(KV:KitV K)(CV_Walk:ClsV K "Walk" Xbd):
  CalM P w K mg base "Walk" "asked" 1 ["self"] (spV K 1 Xj6):=by
 refine CalP.of Df Xp3 (by walk_at "b") rfl (λc A o s H E hr=>⟨_,_,(Xaj (Xaz (Xba Xbk (Xc9 (pv 0) rfl) (Xw4 Xo5 Xal) (λ_ _=>rfl)))),
  (Xa2 (Xa0 (Yco (Xca (OpF.b Xb4) (Xhd (j:=4) CV_Walk (by rfl) Xad) (Xap (Xpi (Xap Xah))))))),?_⟩)
 rintro ds Pr ⟨w,ah,p,rfl,e,hf,h⟩
 unfold Wk.ts
 fin2
 rw[Xzr,e,map_append]
 refine⟨p.d,?_,Yla p,h⟩
 exact Ydz _ _
def Xrh:DSp:=λds P=>∃(p:Pa) (n:Int) (xs:List Int),ds=[p.d,.int n,.lst (xs.map .int),.lst (xs.map λx=>.int (ibN x))]/\Ypl xs p/\xs.length<=1000000/\0<=n/\n<=5000/\P (.fz (.bl (Xmr xs n p)))
abbrev Xp6:Stmt:=top 39
theorem Xrs:FnScope ["part","plane","some","heights","number"] ["part","plane","some","heights"] (Xae Xp6):=by walk_at "S"
theorem Xz0 (Df:DefAt K mg "answer" Xp6 f fd)(B:BltV mg)(KV:KitV K)(Xej:∃t,mg "FIGURE"=some (.int 3 t))(Xkr:∃t,mg "SIGN"=some (.int 2 t))(Xcm:∃t,mg "START"=some (.int 1 t))(Xh6:∃t,mg "ASKS"=some (.int 0 t))(Xh5:∃t,mg "END"=some (.int 2 t)):
  Cal P w K mg base "answer" 1 ["part","plane","some","heights"] (spV K 4 Xrh):=by
 refine CalV.of Df Xrs (by walk_at "b") rfl (λc A o s H E hr=>⟨_,_,(Xag (Xa4 (i:=4) Xrs.nd rfl (Or.inl rfl) (Xba Xbk (pv 2) (Xba Xbh (pv 0) (Xau (by rfl) Xcm) (λ_ _=>rfl)) (λ_ _=>rfl)))
   (Xag (Xb0 (Xbb Xfk (Xba Xbh (pv 0) (Xau (by rfl) Xh6) (λ_ _=>rfl)) (Xau (by rfl) Xej) (Xbf _)) (Xaj (Xaz (Xgs Xfk (Xaw Yew (Xaw Xzs (Xar Xwc (by rfl) B.abs boot_abs (Xaa (pv 4) Xac)) (pv 1)) Xal) Xal (Xbf _)))) Xa8)
   (Xag (Xb0 (Xbb Xfk (Xba Xbh (pv 0) (Xau (by rfl) Xh6) (λ_ _=>rfl)) (Xau (by rfl) Xkr) (Xbf _)) (Xaj (Xaz (Xgs Xt9 (pv 4) Xal (Xbf _)))) Xa8)
   (Xaj (Xaz (Xgs Yc8 (Xar (Xtc rfl) (by rfl) B.max boot_max (Xaa (Xdf Xu9 (pv 3) (Xdd (Xba Xbh (pv 0) (Xau (by rfl) Xcm) (λ_ _=>rfl))) (Xdd (Xba Xbh (pv 0) (Xau (by rfl) Xh5) (λ_ _=>rfl)))) Xac)) (pv 1) (Xbf _))))))),
  (Xao (Xa5 (Xa0 (Xbo Xb4 Xai (Xbo Xbg Xai Xah))))
   (Xao (Xcd (Xa9 (Xaq Xfm (Xca (OpF.b Xbg) Xad (Xap Xah)) (Xap Xah))) (Xa2 (Xa0 (Xaq Xfm (Xap (Xaq Xcl (Xap (Xaq Xc5 (Xap (Xbl Yfw (Xaf Xad Xan))) Xad)) (Xap Xah))) (Xap Xah)))) Xa7)
   (Xao (Xcd (Xa9 (Xaq Xfm (Xca (OpF.b Xbg) Xad (Xap Xah)) (Xap Xah))) (Xa2 (Xa0 (Xaq Xhf Xad (Xap Xah)))) Xa7)
   (Xa2 (Xa0 (Xaq Xhf (Xap (Xbl Ybv (Xaf (Xap (Xby (Yel Xai (Xkc (Xca (OpF.b Xbg) Xad (Xap Xah))) (Xkc (Xca (OpF.b Xbg) Xad (Xap Xah)))))) Xan))) Xad)))))),?_⟩)
 rintro ds Pr ⟨p,n,xs,rfl,⟨hp1,hp2,hp3⟩,hx,hn0,hn,h⟩
 rw[Xsc]
 gn_on
 refine⟨_,Xha hp1 (by lia),?_⟩
 gp_on
 fin2
 unfold Xmr at h
 split
 .rename_i c
  rw[if_pos c]at h
  refine⟨hn0,?_⟩
  rw[Ybx]
  generalize (xs.getD p.s.toNat 0).natAbs / 2^n.toNat%2=t at h ⊢
  rw[decide_eq_decide.mpr (show ((t:Nat):Int)=1↔t=1 by lia)]
  exact h
 .rename_i c
  rw[if_neg c]at h
  split
  .rename_i c2
   rw[if_pos c2]at h
   exact h
  .rename_i c2
   rw[if_neg c2]at h
   refine⟨((xs.drop p.s.toNat).take (p.e.toNat-p.s.toNat)).map λx=>(ibN x:Int),?_,?_,λM hM hA=>?_⟩
   .rw [map_map,Yi9 hp1 (by lia) (by simpa using hp3),<- map_drop,<- map_take,map_map,map_map]
    rfl
   .rw [length_map,length_take,length_drop]
    lia
   .have e:(((xs.drop p.s.toNat).take (p.e.toNat-p.s.toNat)).any λx=>decide (n<(ibN x:Int)))=decide (M > n):=by
     rw[Bool.eq_iff_iff,any_eq_true,decide_eq_true_eq]
     constructor
     .rintro ⟨x,hx1,hx2⟩
      have:=hA _ (mem_map.mpr ⟨x,hx1,rfl⟩)
      have:=of_decide_eq_true hx2
      lia
     .intro z
      obtain⟨x,hx1,hx2⟩:=mem_map.mp hM
      exact⟨x,hx1,decide_eq_true (by lia)⟩
    rw[e]at h
    exact h
def Xym:DSp:=λds P=>∃(xs:List Int) (n:Nat) (bs:List Bool),ds=[.lst (xs.map .int),.int n]/\xs.length<=1000000/\n<=5000/\bs.length<=900000/\Tell xs (Wk.turn ⟨n,0,[],[⟨0,0,xs.length,1-2^n,2^n-1⟩],[]⟩) bs/\P (.fz (.str (Txt.join "" (bs.map Xtg))))
abbrev Xys:Stmt:=top 40
theorem Xm4:FnScope ["some","planes","walk","heights","bits","bit"] ["some","planes"] (Xae Xys):=by walk_at "S"
theorem Yhx (Df:DefAt K mg "told" Xys f fd)(B:BltV mg)(KV:KitV K)(CV_Walk:ClsV K "Walk" Xbd)(Xcc:CalK P w K mg base "Walk" 2 ["self","many","planes"] (spM K 3 "Walk" Xbd Xd4))(Xda:Cal P w K mg base "heights_of" 1 ["some"] (spV K 1 Xf5))(Xbp:CalM P w K mg base "Walk" "is_whole" 1 ["self"] (spV K 1 Xcy))(Xq6:Cal P w K mg base "answer" 1 ["part","plane","some","heights"] (spV K 4 Xrh))(Xie:CalM P w K mg base "Walk" "asked" 1 ["self"] (spV K 1 Xj6))(Xdt:CalM P w K mg base "Walk" "take" 4 ["self","told"] (spM K 2 "Walk" Xbd Xhr)):
  Cal P w K mg base "told" 5 ["some","planes"] (spV K 2 Xym):=by
 refine CalV.of Df Xm4 (by walk_at "b") rfl (λc A o s H E hr=>⟨_,_,(Xag (Xa4 (i:=2) Xm4.nd rfl (Or.inl rfl) (Xzm Xcc (hr.mono (by decide)) (by rfl) (Xaa (Xar Xax (by rfl) B.len boot_len (Xaa (pv 0) Xac)) (Xaa (pv 1) Xac))))
   (Xag (Xa4 (i:=3) Xm4.nd rfl (Or.inl rfl) (Xa6 Xda (hr.mono (by decide)) (by rfl) (Xaa (pv 0) Xac)))
   (Xag (Xa4 (i:=4) Xm4.nd rfl (Or.inl rfl) (Xbm Xac))
   (Xag (Xvl PassesOwn.never (Xey (Xcv (Xin Xbp (hr.mono (by decide)) (pv 2)))) (Xag (Xa4 (i:=5) Xm4.nd rfl (Or.inl rfl) (Xa6 Xq6 (hr.mono (by decide)) (by rfl) (Xaa (Xin Xie (hr.mono (by decide)) (pv 2)) (Xaa (Xc9 (pv 2) rfl) (Xaa (pv 0) (Xaa (pv 3) Xac))))))
   (Xag (Xbs (Xdb plainAttrs_list PySem.F.slot_list_append PySem.F.type_list_append Xcb (pv 4) (Xaa (Xqg (Xcv (pv 5)) Xat Xat) Xac)))
   (Xaj (Xbs (Xh1 Xdt (hr.mono (by decide)) (pv 2) (Xaa (pv 5) Xac)))))))
   (Xaj (Xaz (Xdb plainAttrs_str slot_str_join type_str_join Xh2 Xat (Xaa (pv 4) Xac)))))))),
  (Xao (Xa5 (Xy1 CV_Walk (Xab (Xbl Xco (Xaf Xad Xan)) (Xab Xai Xam))))
   (Xao (Xa5 (Xa0 (Xby (Xa1 (Xab Xai Xam)))))
   (Xao (Xa5 (Xb3 Xbn))
   (Xao (Xva (Xeu (Xoe (Xby (Xmi CV_Walk (by decide +kernel) Xad Xan)))) (Xao (Xa5 (Xa0 (Xby (Xil (Xaf (Xap (Xby (Xmi CV_Walk (by decide +kernel) Xad Xan))) (Xaf (Xhd (j:=0) CV_Walk (by rfl) Xad) (Xaf Xad (Xaf Xad Xan))))))))
   (Xao (Xvb (Xa0 (Ygz (Xoe Xai) Xas Xas)))
   (Xgn CV_Walk (by decide +kernel) (Xab Xai Xam)))))
   (Xa2 (Xa0 (Xjn (Xap Xas) Xad))))))),?_⟩)
 rintro ds Pr ⟨xs,n,bs,rfl,hx,hn,hb,ht,h⟩
 gn_on
 refine⟨xs.length,n,rfl,rfl,hn,?_⟩
 gp_on
 gn_on
 refine⟨xs,rfl,hx,?_⟩
 gp_on
 gn_on
 gp_on
 gn_on
 rw[map_map]
 refine⟨λm δ=>∃(w:Wk) (rs ds:List Bool) (o:Option Sl),m=rs.length/\Tell xs w rs/\ds++rs=bs/\δ=[some (Sl.own (OV.fz (D.lst (List.map D.int xs)))),some (Sl.own (OV.fz (D.int n))),some (Sl.own (OV.ob none (Str.ofString "Walk") Xbd w.ts)),some (Sl.own (OV.fz (D.lst (xs.map λx=>D.int (ibN x))))),some (Sl.own (OV.nl (ds.map λb=>OV.fz (D.str (Xtg b))))),o],⟨_,_,bs,[],none,rfl,ht,rfl,rfl⟩,?_⟩
 rintro m δ ⟨w,rs,ds,o,rfl,hT,hbs,rfl⟩
 fin2
 refine⟨w,rfl,?_⟩
 fin2
 cases hT with
 |done hl=>
  rw[if_neg (by simp[hl])]
  gp_on
  rw[append_nil]at hbs
  subst hbs
  fin2
  refine⟨ds.map Xtg,by rw[map_map,map_map];rfl,?_,h⟩
  have e:∀l:List Bool,((l.map Xtg).map (·.length)).sum=l.length:=by
   intro l
   induction l with
   |nil=>rfl
   |cons b l ih=>
    rw[map_cons,map_cons,sum_cons,ih,length_cons,Xwe]
    lia
  rw[e,length_map]
  show ds.length+ds.length*0<=16777216
  lia
 | @step _ ah p bs' h0 h5 hf e hp h1 t=>
  rw[if_pos (by simp;omega)]
  refine⟨w,ah,p,by rw[OV.vals_eq],e,hf,?_⟩
  fin2
  refine⟨Yla p,_,rfl,p,w.pl,xs,rfl,hp,hx,h0,h5,?_⟩
  have hl:ds.length<1000000:=by
   have:=congrArg List.length hbs
   rw[length_append]at this
   lia
  fin2
  refine⟨hl,?_⟩
  cases hA:Xmr xs w.pl p with
  |true=>
   rw[hA]at t h1 hbs
   rw[if_pos rfl]
   refine⟨w,ah,p,true,rfl,hf,rfl,e,h0,h5,h1,?_⟩
   refine⟨bs'.length,by simp,_,bs',ds++[true],some (Sl.own (OV.fz (D.bl true))),rfl,t,by simpa using hbs,?_⟩
   rw[map_append]
   rfl
  |false=>
   rw[hA]at t h1 hbs
   rw[if_neg (by decide)]
   refine⟨w,ah,p,false,rfl,hf,rfl,e,h0,h5,h1,?_⟩
   refine⟨bs'.length,by simp,_,bs',ds++[false],some (Sl.own (OV.fz (D.bl false))),rfl,t,by simpa using hbs,?_⟩
   rw[map_append]
   rfl
theorem Yip {x:Int}{k:Nat}:2^k<=x.natAbs↔k<ibN x:=by
 unfold ibN
 split
 .rename_i h
  subst h
  simp
 .rw [<- Nat.le_log2 (by lia)]
  lia
theorem fit_ints (xs:List Int):(D.lst (xs.map D.int)).fit 4=true:=by
 simp only[D.fit,all_eq_true]
 intro d hd
 obtain⟨x,_,rfl⟩:=mem_map.mp hd
 rfl
def Kn (x:Int)(k:Nat)(lo hi:Int):Prop:=lo<=x/\x<=hi/\hi-lo=2^k-1/\((∃q:Int,0<q/\lo=q*2^k)∨(∃q:Int,0<q/\hi = -(q*2^k)))
theorem Yne {P:Prop}[Decidable P]:(true=decide P)↔P:=by rw[eq_comm,decide_eq_true_eq]
theorem Yn8 {P:Prop}[Decidable P]:(false=decide P)↔¬ P:=by rw[eq_comm,decide_eq_false_iff_not]
theorem Ylc (k:Nat):(0:Int)<2^k:=Int.pow_pos (by decide)
theorem Yet (k:Nat):(2:Int)^(k+1)=2*2^k:=by rw[Int.pow_succ,Int.mul_comm]
theorem Kn.le {lo:Int}(h:Kn x k lo hi):2^k<=(x.natAbs:Int):=by
 obtain⟨h1,h2,h3,h4⟩:=h
 rcases h4 with⟨q,hq,rfl⟩ | ⟨q,hq,rfl⟩
 .have:1*2^k<=q*2^k:=Int.mul_le_mul_of_nonneg_right (by lia) (by lia)
  lia
 .have:1*2^k<=q*2^k:=Int.mul_le_mul_of_nonneg_right (by lia) (by lia)
  lia
theorem Ymv (hc:0<c)(hu:∃q,u=q*c)(hy:y=2*u+r)(hr:r<2*c):y / c%2=1↔c<=r:=by
 obtain⟨q,rfl⟩:=hu
 have e:y / c=2*q+r / c:=by
  rw[hy,show 2*(q*c)+r=r+2*q*c by rw[Nat.mul_assoc];lia,Nat.add_mul_div_right _ _ hc,Nat.add_comm]
 by_cases hz:c<=r
 .have:r / c=1:=Nat.div_eq_of_lt_le (by (clear hr;lia)) (by omega)
  clear hr;lia
 .have:r / c=0:=Nat.div_eq_of_lt (by (clear hr;lia))
  clear hr;lia
theorem Kn.neg {lo:Int}(h:Kn x k lo hi):Kn (-x) k (-hi) (-lo):=by
 obtain⟨h1,h2,h3,h4⟩:=h
 refine⟨neg_le_neg h2,neg_le_neg h1,by rw[<- h3];lia,?_⟩
 rcases h4 with⟨q,hq,e⟩ | ⟨q,hq,e⟩
 .exact .inr ⟨q,hq,by rw[e]⟩
 .exact .inl ⟨q,hq,by rw[e,neg_neg]⟩
theorem Ye6 {x:Int}{k:Nat}{lo hi:Int}:Kn (-x) k (-hi) (-lo)↔Kn x k lo hi:=⟨λh=>by have:=h.neg;rwa[neg_neg,neg_neg,neg_neg]at this,Kn.neg⟩
theorem Ylo {lo:Int}(h1:lo<=x)(h2:x<=hi)(h3:hi-lo=2^(k+1)-1)(hq:0<q)(e:lo=q*2^(k+1)):
  lo > 0/\(Kn x k (lo+2^k) hi↔x.natAbs / 2^k%2=1)/\(Kn x k lo (hi-2^k)↔¬ x.natAbs / 2^k%2=1):=by
 have hk:=Nat.two_pow_pos k
 have hcast:(2:Int)^k=((2^k:Nat):Int):=rfl
 unfold Kn
 rw[Yet,hcast]at h3 e
 rw[hcast]
 generalize (2^k:Nat)=c at *
 obtain⟨qn,rfl⟩:∃n:Nat,q=n:=⟨q.toNat,(toNat_of_nonneg (Int.le_of_lt hq)).symm⟩
 have hpos:0<qn*c:=mul_pos (Int.ofNat_lt.mp hq) hk
 have e':lo=((2*(qn*c):Nat):Int):=by rw[e];push_cast;rw[mul_left_comm]
 have f1:lo+(c:Int)=(2*(qn:Int)+1)*c:=by rw[e,Int.add_mul,mul_assoc,mul_left_comm,one_mul]
 have f2:lo=2*(qn:Int)*c:=by rw[e,mul_assoc,mul_left_comm]
 generalize hm:qn*c=m at hpos e'
 obtain⟨xn,rfl⟩:∃n:Nat,x=n:=⟨x.toNat,(toNat_of_nonneg (by lia)).symm⟩
 have key:=Ymv (y:=xn) (r:=xn-2*m) hk ⟨qn,hm.symm⟩ (by clear h2 h3 f1 f2;omega) (by clear f1 f2;lia)
 rw[Int.natAbs_natCast,key]
 have q1:(0:Int)<2*(qn:Int)+1:=by clear f1 f2;lia
 have q2:(0:Int)<2*(qn:Int):=by clear f1 f2;lia
 have g1:lo+(c:Int)<=xn↔c<=xn-2*m:=by clear h2 h3 f1 f2;omega
 have g2:(xn:Int)<=hi-c↔¬ c<=xn-2*m:=by clear f1 f2;lia
 exact⟨by rw[f2];exact Int.mul_pos q2 (Int.ofNat_lt.mpr hk),⟨λg=>g1.mp g.1,λg=>⟨g1.mpr g,h2,by lia,.inl ⟨_,q1,f1⟩⟩⟩,⟨λg=>g2.mp g.2.1,λg=>⟨h1,g2.mpr g,by lia,.inl ⟨_,q2,f2⟩⟩⟩⟩
theorem Kn.figured {x:Int}{k:Nat}{p:Pa}{b:Bool}(h:Kn x (k+1) p.lo p.hi):Kn x k (p.figured k b).lo (p.figured k b).hi↔b=decide (x.natAbs / 2^k%2=1):=by
 obtain⟨h1,h2,h3,h4⟩:=h
 unfold Pa.figured
 rcases h4 with⟨q,hq,e⟩ | ⟨q,hq,e⟩
 .obtain ⟨a1,a2,a3⟩:=Ylo h1 h2 h3 hq e
  rw[decide_eq_true a1]
  cases b with
  |true=>rw[if_pos rfl,Yne,<- a2]
  |false=>rw[if_neg (by decide),Yn8,<- a3]
 .obtain ⟨a1,a2,a3⟩:=Ylo (x:=-x) (lo:=-p.hi) (hi:=-p.lo) (neg_le_neg h2) (neg_le_neg h1) (by rw[<- h3];lia) hq (by rw[e,neg_neg])
  have hd:decide (p.lo > 0)=false:=decide_eq_false (by lia)
  rw[hd]
  rw[Int.natAbs_neg,show -p.hi+2^k = -(p.hi-2^k) by lia,Ye6]at a2
  rw[Int.natAbs_neg,show -p.lo-2^k = -(p.lo+2^k) by lia,Ye6]at a3
  cases b with
  |true=>rw[if_neg (by decide),Yne,<- a2]
  |false=>rw[if_pos rfl,Yn8,<- a3]
theorem Kn.signed {x:Int}{k:Nat}{p:Pa}{b:Bool}(h1:2^k<=x.natAbs)(h2:x.natAbs<2^(k+1)):Kn x k (p.signed k b).lo (p.signed k b).hi↔b=decide (x<0):=by
 have hcast:(2:Int)^k=((2^k:Nat):Int):=rfl
 rw[pow_succ]at h2
 unfold Kn Pa.signed
 cases b with
 |true=>
  rw[if_pos rfl,Yne]
  dsimp only
  constructor
  .rintro ⟨_,g1,_⟩;omega
  .intro g
   exact⟨by lia,by lia,by lia,.inr ⟨1,by lia,by lia⟩⟩
 |false=>
  rw[if_neg (by decide),Yn8]
  dsimp only
  constructor
  .rintro ⟨g1,_⟩;lia
  .intro g
   exact⟨by lia,by lia,by lia,.inl ⟨1,by lia,by lia⟩⟩
def ShK (k:Nat)(lo hi:Int):Prop:=hi-lo=2^k-1/\((∃q:Int,0<q/\lo=q*2^k)∨(∃q:Int,0<q/\hi = -(q*2^k)))
def ShW (k:Nat)(p:Pa):Prop:=0<=p.s/\p.s<p.e/\((p.a=3/\p.e=p.s+1/\ShK k p.lo p.hi)∨(p.a=0/\p.lo=1-2^k/\p.hi=2^k-1))
def ShA (k:Nat)(p:Pa):Prop:=0<=p.s/\p.s<p.e/\((p.a=3/\p.e=p.s+1/\ShK k p.lo p.hi)∨((p.a=0∨p.a=1)/\p.lo=1-2^k/\p.hi=2^k-1)∨(p.a=2/\p.e=p.s+1/\p.lo=1-2^k/\p.hi=2^k-1))
def Low (xs:List Int)(k:Nat)(s e:Int):Prop:=∀i:Nat,s<=i->(i:Int)<e->(xs.getD i 0).natAbs<2^k
def Big (xs:List Int)(k:Nat)(s e:Int):Prop:=∃i:Nat,s<=i/\(i:Int)<e/\2^k<=(xs.getD i 0).natAbs
def CW (xs:List Int)(k:Nat)(p:Pa):Prop:=(p.a=3->p.lo<=xs.getD p.s.toNat 0/\xs.getD p.s.toNat 0<=p.hi)/\(p.a=0->Low xs k p.s p.e)
def CA (xs:List Int)(k:Nat)(p:Pa):Prop:=(p.a=3->p.lo<=xs.getD p.s.toNat 0/\xs.getD p.s.toNat 0<=p.hi)/\(p.a≠3->Low xs (k+1) p.s p.e)/\(p.a=2->Big xs k p.s p.e)
theorem Xnn {xs:List Int}{k:Nat}{s e:Int}:¬ Low xs k s e↔Big xs k s e:=by
 constructor
 .intro h
  exact Classical.byContradiction λz=>h λi h1 h2=>Nat.lt_of_not_le λy=>z ⟨i,h1,h2,y⟩
 .rintro ⟨i,h1,h2,h3⟩ h
  have:=h i h1 h2
  lia
theorem Low.mono (h:Low xs k s e)(hl:k<=l):Low xs l s e:=λi h1 h2=>lt_of_lt_of_le (h i h1 h2) (Nat.pow_le_pow_right (by decide) hl)
theorem Low.split (h1:s<=m)(h2:m<=e):Low xs k s e↔Low xs k s m/\Low xs k m e:=by
 constructor
 .intro h
  exact⟨λi a b=>h i a (by lia),λi a b=>h i (by lia) b⟩
 .rintro ⟨a,b⟩ i c d
  by_cases z:(i:Int)<m
  .exact a i c z
  .exact b i (by lia) d
theorem Big.split (h1:s<=m)(h2:m<=e):Big xs k s e↔Big xs k s m∨Big xs k m e:=by
 rw[<- Xnn,Low.split h1 h2,<- Xnn,<- Xnn]
 exact⟨λz=>(Classical.em _).elim (λa=>.inr λb=>z ⟨a,b⟩) .inl,λz ⟨a,b⟩=>z.elim (λc=>c a) λc=>c b⟩
theorem Yji {xs:List Int}{k:Nat}{p:Pa}(h3:p.a≠3)(h2:p.a≠2)(h0:0<=p.s)(h1:p.s<p.e)(he:p.e<=(xs.length:Int)):Xmr xs (k:Int) p=true↔Big xs k p.s p.e:=by
 unfold Xmr Big
 rw[if_neg h3,if_neg h2,any_eq_true]
 constructor
 .rintro ⟨x,hx,hk⟩
  obtain⟨i,hi⟩:=List.mem_iff_getElem?.mp hx
  have hil:=(List.getElem?_eq_some_iff.mp hi).1
  rw[length_take]at hil
  rw[List.getElem?_take_of_lt (by omega),List.getElem?_drop]at hi
  refine⟨p.s.toNat+i,by lia,by lia,?_⟩
  rw[getD_eq_getElem?_getD,hi]
  show 2^k<=x.natAbs
  exact Yip.mpr (by have:=of_decide_eq_true hk;lia)
 .rintro ⟨i,a,b,c⟩
  refine⟨xs.getD i 0,List.mem_iff_getElem?.mpr ⟨i-p.s.toNat,?_⟩,decide_eq_true (by have:=Yip.mp c;lia)⟩
  rw[List.getElem?_take_of_lt (by (clear c;omega)),List.getElem?_drop,show p.s.toNat+(i-p.s.toNat)=i by (clear h0 he c;lia),getD_eq_getElem?_getD,getElem?_eq_getElem (by lia)]
  rfl
theorem Xpm {x:Int}{k:Nat}{lo hi:Int}:Kn x k lo hi↔ShK k lo hi/\lo<=x/\x<=hi:=by
 constructor
 .rintro ⟨a,b,c,d⟩;exact⟨⟨c,d⟩,a,b⟩
 .rintro ⟨⟨c,d⟩,a,b⟩;exact⟨a,b,c,d⟩
theorem ShK.figured {k:Nat}{p:Pa}{b:Bool}(h:ShK (k+1) p.lo p.hi):ShK k (p.figured k b).lo (p.figured k b).hi/\p.lo<=(p.figured k b).lo/\(p.figured k b).hi<=p.hi:=by
 obtain⟨h3,h4⟩:=h
 rw[Yet]at h3 h4
 have hk:=Ylc k
 unfold ShK Pa.figured
 generalize (2:Int)^k=c at *
 split
 .rename_i hb
  dsimp only
  refine⟨⟨by lia,?_⟩,by lia,by lia⟩
  rcases h4 with⟨q,hq,e⟩ | ⟨q,hq,e⟩
  .exact .inl ⟨2*q+1,by lia,by rw[e,Int.add_mul,mul_left_comm,mul_assoc];lia⟩
  .exact .inr ⟨2*q,by lia,by rw[e,mul_left_comm,mul_assoc]⟩
 .rename_i hb
  dsimp only
  refine⟨⟨by lia,?_⟩,by lia,by lia⟩
  rcases h4 with⟨q,hq,e⟩ | ⟨q,hq,e⟩
  .exact .inl ⟨2*q,by lia,by rw[e,mul_left_comm,mul_assoc]⟩
  .exact .inr ⟨2*q+1,by lia,by rw[e,Int.add_mul,mul_left_comm,mul_assoc];lia⟩
theorem ShK.signed {k:Nat}{p:Pa}{b:Bool}:ShK k (p.signed k b).lo (p.signed k b).hi:=by
 unfold ShK Pa.signed
 split
 .exact ⟨by dsimp only;lia,.inr ⟨1,by lia,by dsimp only;lia⟩⟩
 .exact ⟨by dsimp only;lia,.inl ⟨1,by lia,by dsimp only;lia⟩⟩
theorem Yi2 {xs:List Int}{k:Nat}{p:Pa}{b:Bool}(h3:p.a=3)(hs:ShK (k+1) p.lo p.hi):CW xs k (p.figured k b)↔CA xs k p/\b=Xmr xs (k:Int) p:=by
 have ha:Xmr xs (k:Int) p=decide ((xs.getD p.s.toNat 0).natAbs / 2^k%2=1):=by
  unfold Xmr
  rw[if_pos h3]
  rfl
 have fa:(p.figured k b).a=3/\(p.figured k b).s=p.s/\(p.figured k b).e=p.e:=by unfold Pa.figured;split<;>exact⟨rfl,rfl,rfl⟩
 obtain⟨g1,g2,g3⟩:=hs.figured (b:=b)
 rw[ha]
 unfold CW CA
 rw[fa.1,fa.2.1]
 generalize xs.getD p.s.toNat 0=x
 constructor
 .rintro ⟨h,_⟩
  obtain⟨a1,a2⟩:=h rfl
  have kn:Kn x (k+1) p.lo p.hi:=Xpm.mpr ⟨hs,by lia,by lia⟩
  exact⟨⟨λ_=>⟨by lia,by lia⟩,λz=>absurd h3 z,λz=>by rw[h3]at z;cases z⟩,kn.figured.mp (Xpm.mpr ⟨g1,a1,a2⟩)⟩
 .rintro ⟨⟨h,_,_⟩,hb⟩
  have kn:Kn x (k+1) p.lo p.hi:=Xpm.mpr ⟨hs,h h3⟩
  exact⟨λ_=>(Xpm.mp (kn.figured.mpr hb)).2,λz=>by cases z⟩
theorem Xzv (h:0<=s):Low xs k s (s+1)↔(xs.getD s.toNat 0).natAbs<2^k:=by
 constructor
 .intro z;exact z s.toNat (by lia) (by lia)
 .intro z i a b
  rw[show i=s.toNat by (clear z;lia)];exact z
theorem Yhw (h:0<=s):Big xs k s (s+1)↔2^k<=(xs.getD s.toNat 0).natAbs:=by
 rw[<- Xnn,Xzv h]
 omega
theorem Ygf {xs:List Int}{k:Nat}{p:Pa}{b:Bool}(h2:p.a=2)(h0:0<=p.s)(he:p.e=p.s+1):CW xs k (p.signed k b)↔CA xs k p/\b=Xmr xs (k:Int) p:=by
 have ha:Xmr xs (k:Int) p=decide (xs.getD p.s.toNat 0<0):=by
  unfold Xmr
  rw[if_neg (by rw[h2];decide),if_pos h2]
 have fa:(p.signed k b).a=3/\(p.signed k b).s=p.s/\(p.signed k b).e=p.e:=by unfold Pa.signed;split<;>exact⟨rfl,rfl,rfl⟩
 rw[ha]
 unfold CW CA
 rw[fa.1,fa.2.1,he]
 simp only[Xzv h0,Yhw h0]
 generalize xs.getD p.s.toNat 0=x
 constructor
 .rintro ⟨h,_⟩
  have kn:Kn x k (p.signed k b).lo (p.signed k b).hi:=Xpm.mpr ⟨ShK.signed,h trivial⟩
  have l1:2^k<=x.natAbs:=by
   have:=kn.le
   exact_mod_cast this
  have l2:x.natAbs<2^(k+1):=by
   obtain⟨a1,a2⟩:=h trivial
   have hc:(2:Int)^k=((2^k:Nat):Int):=rfl
   rw[pow_succ]
   unfold Pa.signed at a1 a2
   split at a1
   .rename_i z
    rw[if_pos z]at a2
    dsimp only at a1 a2
    clear h2 h0 he fa;lia
   .rename_i z
    rw[if_neg z]at a2
    dsimp only at a1 a2
    clear h2 h0 he fa;lia
  exact⟨⟨(λz=>by rw[h2]at z;cases z),λ_=>l2,λ_=>l1⟩,(Kn.signed l1 l2).mp kn⟩
 .rintro ⟨⟨_,l2,l1⟩,hb⟩
  exact⟨λ_=>(Xpm.mp ((Kn.signed (l1 h2) (l2 (by rw[h2];decide))).mpr hb)).2,λz=>by cases z⟩
theorem Ynd {b:Bool}:(true=b)↔b=true:=eq_comm
theorem Yn7 {b:Bool}:(false=b)↔¬ b=true:=by cases b<;>simp
def Xxx (xs:List Int)(k:Nat)(ah:List Pa):Prop:=∀r q p,ah=r++[q,p]->p.a=1->Big xs k p.s q.e
def CAs (xs:List Int)(k:Nat)(ah:List Pa):Prop:=(∀p∈ah,CA xs k p)/\Xxx xs k ah
theorem Xni (h:p.a≠1):Xxx xs k (ah++[p]):=λr q p' e h'=>by
 have:ah++[p]=(r++[q])++[p']:=by rw[e];simp
 obtain⟨_,e2⟩:=append_inj' this rfl
 rw[List.cons.inj e2 |>.1]at h
 exact absurd h' h
theorem Xkj (h:∀z∈ah,z.a≠1):Xxx xs k ah:=λr q p e h'=>absurd h' (h p (by rw[e];simp))
theorem Xqj (h:p.a=1):Xxx xs k (ah++[q,p])↔Big xs k p.s q.e:=by
 constructor
 .intro z;exact z ah q p rfl h
 .intro z r q' p' e _
  obtain⟨_,e2⟩:=append_inj' e rfl
  obtain⟨a,b⟩:=List.cons.inj e2
  obtain⟨c,_⟩:=List.cons.inj b
  rw[<- a,<- c];exact z
theorem Xu0 {xs:List Int}{k:Nat}{w:Wk}{q:Pa}(h0:0<=q.s)(h1:q.s<q.e)(hn:∀z∈w.ah,z.a≠1):
  CAs xs k (w.wake q).ah↔(∀z∈w.ah,CA xs k z)/\Low xs (k+1) q.s q.e/\Big xs k q.s q.e:=by
 unfold Wk.wake CAs
 split
 .dsimp only
  have hp:Xxx xs k (w.ah++[⟨2,q.s,q.e,q.lo,q.hi⟩]):=Xni (by show ¬ (2:Int)=1;decide)
  have hc:CA xs k ⟨2,q.s,q.e,q.lo,q.hi⟩↔Low xs (k+1) q.s q.e/\Big xs k q.s q.e:=by
   unfold CA
   dsimp only
   exact⟨λz=>⟨z.2.1 (by decide),z.2.2 rfl⟩,λz=>⟨λy=>absurd y (by decide),λ_=>z.1,λ_=>z.2⟩⟩
  rw[forall_mem_append,forall_mem_singleton,hc]
  exact⟨λz=>z.1,λz=>⟨z,hp⟩⟩
 .dsimp only
  have hm1:q.s<(q.s+q.e) / 2:=by lia
  have hm2:(q.s+q.e) / 2<q.e:=by lia
  generalize (q.s+q.e) / 2=m at hm1 hm2
  have hc:∀(a s e:Int),a≠3->a≠2->(CA xs k ⟨a,s,e,q.lo,q.hi⟩↔Low xs (k+1) s e):=by
   intro a s e n3 n2
   unfold CA
   exact⟨λz=>z.2.1 n3,λz=>⟨λy=>absurd y n3,λ_=>z,λy=>absurd y n2⟩⟩
  have hp:=Xqj (xs:=xs) (k:=k) (ah:=w.ah) (q:=⟨0,m,q.e,q.lo,q.hi⟩) (p:=⟨1,q.s,m,q.lo,q.hi⟩) rfl
  rw[hp,forall_mem_append,forall_mem_cons,forall_mem_singleton,hc _ _ _ (by decide) (by decide),hc _ _ _ (by decide) (by decide)]
  have hs:=Low.split (xs:=xs) (k:=k+1) (s:=q.s) (m:=m) (e:=q.e) (by lia) (by lia)
  exact⟨λ⟨⟨a,b,c⟩,d⟩=>⟨a,hs.mpr ⟨c,b⟩,d⟩,λ⟨a,cb,d⟩=>⟨⟨a,(hs.mp cb).2,(hs.mp cb).1⟩,d⟩⟩
theorem Xx3 (w:Wk)(q:Pa):(w.wake q).wk=w.wk/\(w.wake q).pl=w.pl/\(w.wake q).us=w.us/\(w.wake q).re=w.re:=by
 unfold Wk.wake
 split<;>exact⟨rfl,rfl,rfl,rfl⟩
structure Sib (ah:List Pa) (p:Pa):Prop where
 no:∀z∈ah,z.a≠1
 sib:p.a=1->∃r q,ah=r++[q]/\q.a=0/\q.s=p.e/\q.s<q.e/\0<=q.s
def Yjo (xs:List Int)(k:Nat)(w:Wk):Prop:=(∀p∈w.wk,CW xs k p)/\CAs xs k w.ah
theorem Ycc {xs:List Int}{k:Nat}{w:Wk}{ah:List Pa}{p:Pa}{b:Bool}(hk:w.pl=k)(e:w.ah=ah++[p])(hs:ShA (k+1) p)(hb:Sib ah p)(he:p.e<=(xs.length:Int)):
  Yjo xs k (w.step ah p b)↔Yjo xs k w/\b=Xmr xs (k:Int) p:=by
 obtain⟨h0,h1,h2⟩:=hs
 have ek:w.pl.toNat=k:=by lia
 have hno:=hb.no
 have hpn:Xxx xs k ah:=Xkj hno
 unfold Wk.step Yjo
 rw[e]
 by_cases c3:p.a=3
 .rw [if_pos c3,ek]
  dsimp only
  have hsh:ShK (k+1) p.lo p.hi:=by
   rcases h2 with z |z |z
   .exact z.2.2
   .rcases z.1 with y |y<;>rw[c3]at y<;>cases y
   .rw [c3]at z;cases z.1
  have hp:Xxx xs k (ah++[p]):=Xni (by rw[c3];decide)
  unfold CAs
  rw[forall_mem_append,forall_mem_singleton,Yi2 c3 hsh,forall_mem_append,forall_mem_singleton]
  exact⟨λ⟨⟨a,b,c⟩,d,_⟩=>⟨⟨a,⟨d,b⟩,hp⟩,c⟩,λ⟨⟨a,⟨d,b⟩,_⟩,c⟩=>⟨⟨a,b,c⟩,d,hpn⟩⟩
 .rw [if_neg c3]
  by_cases c2:p.a=2
  .rw [if_pos c2,ek]
   dsimp only
   have hsh:p.e=p.s+1:=by
    rcases h2 with z |z |z
    .rw [c2]at z;cases z.1
    .rcases z.1 with y |y<;>rw[c2]at y<;>cases y
    .exact z.2.1
   have hp:Xxx xs k (ah++[p]):=Xni (by rw[c2];decide)
   unfold CAs
   rw[forall_mem_append,forall_mem_singleton,Ygf c2 h0 hsh,forall_mem_append,forall_mem_singleton]
   exact⟨λ⟨⟨a,b,c⟩,d,_⟩=>⟨⟨a,⟨d,b⟩,hp⟩,c⟩,λ⟨⟨a,⟨d,b⟩,_⟩,c⟩=>⟨⟨a,b,c⟩,d,hpn⟩⟩
  .rw [if_neg c2]
   have hans:=Yji (xs:=xs) (k:=k) c3 c2 h0 h1 he
   have hca:CA xs k p↔Low xs (k+1) p.s p.e:=by
    unfold CA
    exact⟨λz=>z.2.1 c3,λz=>⟨λy=>absurd y c3,λ_=>z,λy=>absurd y c2⟩⟩
   cases b with
   |true=>
    rw[if_pos rfl,(Xx3 _ _).1,Xu0 h0 h1 hno,Ynd,hans]
    unfold CAs
    rw[forall_mem_append,forall_mem_singleton,hca]
    constructor
    .rintro ⟨a,d,l,g⟩
     refine⟨⟨a,⟨d,l⟩,?_⟩,g⟩
     by_cases c1:p.a=1
     .obtain ⟨r,q,rfl,_,q2,q3,_⟩:=hb.sib c1
      rw[append_assoc]
      refine (Xqj c1).mpr ?_
      obtain⟨i,i1,i2,i3⟩:=g
      exact⟨i,i1,by (clear hk he ek i3;lia),i3⟩
     .exact Xni c1
    .rintro ⟨⟨a,⟨d,l⟩,_⟩,g⟩
     exact⟨a,d,l,g⟩
   |false=>
    rw[if_neg (by decide),Yn7,hans]
    have hcw:∀lo hi:Int,CW xs k ⟨0,p.s,p.e,lo,hi⟩↔Low xs k p.s p.e:=by
     intro lo hi
     unfold CW
     dsimp only
     exact⟨λz=>z.2 rfl,λz=>⟨λy=>absurd y (by decide),λ_=>z⟩⟩
    have hlb:Low xs k p.s p.e↔Low xs (k+1) p.s p.e/\¬ Big xs k p.s p.e:=by
     rw[<- Xnn,Classical.not_not]
     exact⟨λz=>⟨z.mono (by lia),z⟩,λz=>z.2⟩
    unfold Wk.calm
    by_cases c1:p.a=1
    .rw [if_pos c1]
     obtain⟨r,q,rfl,qa,q2,q3,q0⟩:=hb.sib c1
     have hca':CA xs k q↔Low xs (k+1) q.s q.e:=by
      unfold CA
      exact⟨λz=>z.2.1 (by rw[qa];decide),λz=>⟨(λy=>by rw[qa]at y;cases y),λ_=>z,(λy=>by rw[qa]at y;cases y)⟩⟩
     have hpr:Xxx xs k (r++[q]++[p])↔Big xs k p.s q.e:=by rw[append_assoc];exact Xqj c1
     have hbs:=Big.split (xs:=xs) (k:=k) (s:=p.s) (m:=p.e) (e:=q.e) (by (clear hk he ek;lia)) (by (clear hk he ek;lia))
     rw[(Xx3 _ _).1,Xu0 (by rw[getLastD_concat];exact q0) (by rw[getLastD_concat];exact q3) (by
      dsimp only
      rw[dropLast_concat]
      exact λz hz=>hno z (by simp[hz]))]
     unfold Wk.walked CAs
     dsimp only
     rw[dropLast_concat,getLastD_concat,forall_mem_append,forall_mem_singleton,hcw,hlb,hpr,hbs,forall_mem_append,forall_mem_singleton,forall_mem_append,forall_mem_singleton,hca,hca',<- q2]
     constructor
     .rintro ⟨⟨a,l,n⟩,d,lq,bq⟩
      exact⟨⟨a,⟨⟨d,lq⟩,l⟩,.inr bq⟩,n⟩
     .rintro ⟨⟨a,⟨⟨d,lq⟩,l⟩,pb⟩,n⟩
      exact⟨⟨a,l,n⟩,d,lq,pb.elim (λz=>absurd z n) id⟩
    .rw [if_neg c1]
     unfold Wk.walked CAs
     dsimp only
     have hp:Xxx xs k (ah++[p]):=Xni c1
     rw[forall_mem_append,forall_mem_singleton,hcw,hlb,forall_mem_append,forall_mem_singleton,hca]
     exact⟨λ⟨⟨a,l,n⟩,d,_⟩=>⟨⟨a,⟨d,l⟩,hp⟩,n⟩,λ⟨⟨a,⟨d,l⟩,_⟩,n⟩=>⟨⟨a,l,n⟩,d,hpn⟩⟩
def Xjz (xs:List Int)(w:Wk):Prop:=Yjo xs w.pl.toNat w
theorem Xu3 {w:Wk}(h0:0<=w.pl)(ha:w.ah=[])(hk:∀p∈w.wk,p.a=0∨p.a=3):Xjz xs w.turn↔Xjz xs w:=by
 unfold Xjz Wk.turn
 split
 .dsimp only
  obtain⟨k,hk1⟩:∃k:Nat,w.pl=k+1:=⟨(w.pl-1).toNat,by omega⟩
  rw[hk1,show ((k:Int)+1-1).toNat=k by lia]
  unfold Yjo CAs
  rw[ha]
  have hp:Xxx xs k w.wk.reverse:=Xkj λz hz=>by
   rcases hk z (by simpa using hz) with y |y<;>rw[y]<;>decide
  have hp2:Xxx xs (k+1) ([]:List Pa):=Xkj λz hz=>by cases hz
  have hc:∀p∈w.wk,(CA xs k p↔CW xs (k+1) p):=by
   intro p hp
   unfold CA CW
   rcases hk p hp with y |y
   .rw [y]
    exact⟨λz=>⟨z.1,λ_=>z.2.1 (by decide)⟩,λz=>⟨z.1,λ_=>z.2 rfl,λy=>absurd y (by decide)⟩⟩
   .rw [y]
    exact⟨λz=>⟨z.1,λy=>absurd y (by decide)⟩,λz=>⟨z.1,λy=>absurd rfl y,λy=>absurd y (by decide)⟩⟩
  constructor
  .rintro ⟨_,a,_⟩
   exact⟨λp hp=>(hc p hp).mp (a p (by simpa using hp)),(λp hp=>by cases hp),hp2⟩
  .rintro ⟨a,_,_⟩
   exact⟨(λp hp=>by cases hp),λp hq=>(hc p (by simpa using hq)).mpr (a p (by simpa using hq)),hp⟩
 .dsimp only
  have e:w.pl=0:=by lia
  rw[e]
  exact Iff.rfl
theorem Xw0 {w:Wk}(h0:0<=w.pl)(hk:∀p∈w.wk,p.a=0∨p.a=3):Xjz xs w.rowEnd↔Xjz xs w:=by
 unfold Wk.rowEnd
 split
 .rename_i c
  exact Xu3 (w:={w with re:=w.re++[w.us]}) h0 c hk
 .exact Iff.rfl
def Xf2:Int->List Pa->Int->Prop
 |a,[],b=>a=b
 |a,p::ps,b=>p.s=a/\p.s<p.e/\Xf2 p.e ps b
theorem Xn1 {a b:Int}:∀{ps qs:List Pa},Xf2 a (ps++qs) b↔∃c,Xf2 a ps c/\Xf2 c qs b
 | [],qs=>by
  constructor
  .intro h;exact⟨a,rfl,h⟩
  .rintro ⟨c,h1,h2⟩;cases (show a=c from h1);exact h2
 |p::ps,qs=>by
  show (p.s=a/\p.s<p.e/\Xf2 p.e (ps++qs) b)↔∃c,(p.s=a/\p.s<p.e/\Xf2 p.e ps c)/\Xf2 c qs b
  rw[Xn1]
  constructor
  .rintro ⟨h1,h2,c,h3,h4⟩;exact⟨c,⟨h1,h2,h3⟩,h4⟩
  .rintro ⟨c,⟨h1,h2,h3⟩,h4⟩;exact⟨h1,h2,c,h3,h4⟩
theorem Xq1:∀{ps:List Pa} {a b:Int},Xf2 a ps b->a+ps.length<=b
 | [],a,b,h=>by cases (show a=b from h);simp
 |p::ps,a,b,⟨h1,h2,h3⟩=>by
  have:=Xq1 h3
  simp only[length_cons]
  lia
theorem Xnz:∀{ps:List Pa} {a b:Int} {p:Pa},Xf2 a ps b->p∈ps->a<=p.s/\p.s<p.e/\p.e<=b
 |q :: ps,a,b,p,⟨h1,h2,h3⟩,hp=>by
  rcases mem_cons.mp hp with rfl |hp
  .have:=Xq1 h3
   exact⟨by lia,h2,by lia⟩
  .have:=Xnz h3 hp
   exact⟨by lia,this.2.1,this.2.2⟩
theorem Xla (h:Xf2 a (xs++p::ys) b)(hs:p'.s=p.s)(he:p'.e=p.e):Xf2 a (xs++p'::ys) b:=by
 rw[Xn1]at h ⊢
 obtain⟨c,h1,h2,h3,h4⟩:=h
 exact⟨c,h1,by rw[hs];exact h2,by rw[hs,he];exact h3,by rw[he];exact h4⟩
theorem Xur (h:Xf2 a (xs++p::ys) b)(h1:p1.s=p.s)(h2:p1.e=p2.s)(h3:p2.e=p.e)(h4:p1.s<p1.e)(h5:p2.s<p2.e):Xf2 a (xs++p1::p2::ys) b:=by
 rw[Xn1]at h ⊢
 obtain⟨c,g1,g2,g3,g4⟩:=h
 exact⟨c,g1,by rw[h1];exact g2,h4,h2.symm,h5,by rw[h3];exact g4⟩
structure Sh0 (m:Int) (k:Nat) (w:Wk):Prop where
 ch:Xf2 0 (w.wk++w.ah.reverse) m
 wk:∀p∈w.wk,ShW k p
 ah:∀p∈w.ah,ShA (k+1) p
 sib:∀ah p,w.ah=ah++[p]->Sib ah p
theorem Yke (hn:∀z∈ah,z.a≠1)(hp:p.a≠1):∀ah' p',ah++[p]=ah'++[p']->Sib ah' p':=λah' p' e=>by
 obtain⟨rfl,e2⟩:=append_inj' e rfl
 cases e2
 exact⟨hn,λz=>absurd z hp⟩
theorem Xyq (hn:∀z∈ah,z.a≠1):∀ah' p',ah=ah'++[p']->Sib ah' p':=λah' p' e=>
 ⟨λz hz=>hn z (by rw[e];simp[hz]),λz=>absurd z (hn p' (by rw[e];simp))⟩
theorem Xo4 {m:Int}{k:Nat}{w:Wk}{q:Pa}(h0:0<=q.s)(h1:q.s<q.e)(hq:q.lo=1-2^(k+1)/\q.hi=2^(k+1)-1)(hc:Xf2 0 (w.wk++q::w.ah.reverse) m)(hw:∀p∈w.wk,ShW k p)(ha:∀p∈w.ah,ShA (k+1) p)(hn:∀z∈w.ah,z.a≠1):Sh0 m k (w.wake q):=by
 unfold Wk.wake
 split
 .refine ⟨?_,hw,?_,?_⟩
  .rw [reverse_append]
   exact Xla hc rfl rfl
  .intro p hp
   rcases mem_append.mp hp with z |z
   .exact ha p z
   .rw [mem_singleton.mp z]
    exact⟨h0,h1,.inr (.inr ⟨rfl,by show q.e=q.s+1;lia,hq.1,hq.2⟩)⟩
  .exact Yke hn (by show ¬ (2:Int)=1;decide)
 .have hm1:q.s<(q.s+q.e) / 2:=by lia
  have hm2:(q.s+q.e) / 2<q.e:=by lia
  generalize (q.s+q.e) / 2=mid at hm1 hm2
  refine⟨?_,hw,?_,?_⟩
  .rw [reverse_append]
   exact Xur hc rfl rfl rfl hm1 hm2
  .intro p hp
   rcases mem_append.mp hp with z |z
   .exact ha p z
   .rcases mem_cons.mp z with z |z
    .rw [z];exact⟨by show 0<=mid;lia,hm2,.inr (.inl ⟨.inl rfl,hq.1,hq.2⟩)⟩
    .rw [mem_singleton.mp z];exact⟨h0,hm1,.inr (.inl ⟨.inr rfl,hq.1,hq.2⟩)⟩
  .intro ah' p' e
   have e':(w.ah++[⟨0,mid,q.e,q.lo,q.hi⟩])++[⟨1,q.s,mid,q.lo,q.hi⟩]=ah'++[p']:=by rw[append_assoc];exact e
   obtain⟨rfl,e2⟩:=append_inj' e' rfl
   cases e2
   refine⟨λz hz=>?_,λ_=>⟨w.ah,_,rfl,rfl,rfl,hm2,by show 0<=mid;lia⟩⟩
   rcases mem_append.mp hz with y |y
   .exact hn z y
   .rw [mem_singleton.mp y];show ¬ (0:Int)=1;decide
theorem Xwn {m:Int}{k:Nat}{w:Wk}{ah:List Pa}{p:Pa}{b:Bool}(S:Sh0 m k w)(hk:w.pl=k)(e:w.ah=ah++[p]):Sh0 m k (w.step ah p b):=by
 have ek:w.pl.toNat=k:=by lia
 have hb:=S.sib ah p e
 have hA:∀z∈ah,ShA (k+1) z:=λz hz=>S.ah z (by rw[e];simp[hz])
 obtain⟨h0,h1,h2⟩:=S.ah p (by rw[e];simp)
 have hc:=S.ch
 rw[e,reverse_append]at hc
 have put:∀p':Pa,p'.s=p.s->p'.e=p.e->ShW k p'->Sh0 m k {w with us:=w.us+1,ah:=ah,wk:=w.wk++[p']}:=λp' hs he hw=>by
  refine⟨?_,λz hz=>?_,hA,Xyq hb.no⟩
  .rw [append_assoc]
   exact Xla hc hs he
  .rcases mem_append.mp hz with y |y
   .exact S.wk z y
   .rw [mem_singleton.mp y];exact hw
 unfold Wk.step
 by_cases c3:p.a=3
 .rw [if_pos c3,ek]
  have hsh:p.e=p.s+1/\ShK (k+1) p.lo p.hi:=by
   rcases h2 with z |z |z
   .exact z.2
   .rcases z.1 with y |y<;>rw[c3]at y<;>cases y
   .rw [c3]at z;cases z.1
  have fa:(p.figured k b).a=3/\(p.figured k b).s=p.s/\(p.figured k b).e=p.e:=by unfold Pa.figured;split<;>exact⟨rfl,rfl,rfl⟩
  exact put _ fa.2.1 fa.2.2 ⟨by rw[fa.2.1];exact h0,by rw[fa.2.1,fa.2.2];exact h1,.inl ⟨fa.1,by rw[fa.2.1,fa.2.2];exact hsh.1,(hsh.2.figured).1⟩⟩
 .rw [if_neg c3]
  by_cases c2:p.a=2
  .rw [if_pos c2,ek]
   have hsh:p.e=p.s+1:=by
    rcases h2 with z |z |z
    .rw [c2]at z;cases z.1
    .rcases z.1 with y |y<;>rw[c2]at y<;>cases y
    .exact z.2.1
   have fa:(p.signed k b).a=3/\(p.signed k b).s=p.s/\(p.signed k b).e=p.e:=by unfold Pa.signed;split<;>exact⟨rfl,rfl,rfl⟩
   exact put _ fa.2.1 fa.2.2 ⟨by rw[fa.2.1];exact h0,by rw[fa.2.1,fa.2.2];exact h1,.inl ⟨fa.1,by rw[fa.2.1,fa.2.2];exact hsh,ShK.signed⟩⟩
  .rw [if_neg c2]
   have hcalm:p.lo=1-2^(k+1)/\p.hi=2^(k+1)-1:=by
    rcases h2 with z |z |z
    .exact absurd z.1 c3
    .exact z.2
    .exact absurd z.1 c2
   split
   .exact Xo4 h0 h1 hcalm hc S.wk hA hb.no
   .have hw:ShW k ⟨0,p.s,p.e,1-2^k,2^k-1⟩:=⟨h0,h1,.inr ⟨rfl,rfl,rfl⟩⟩
    unfold Wk.calm
    by_cases c1:p.a=1
    .rw [if_pos c1]
     obtain⟨r,q,rfl,qa,q2,q3,q0⟩:=hb.sib c1
     have hq:q.lo=1-2^(k+1)/\q.hi=2^(k+1)-1:=by
      rcases (hA q (by simp)).2.2 with z |z |z
      .rw [qa]at z;cases z.1
      .exact z.2
      .rw [qa]at z;cases z.1
     unfold Wk.walked
     rw[dropLast_concat,getLastD_concat,ek]
     refine Xo4 q0 q3 hq ?_ (λz hz=>?_) (λz hz=>hA z (by simp[hz])) λz hz=>hb.no z (by simp[hz])
     .rw [reverse_append]at hc
      rw[append_assoc]
      exact Xla hc rfl rfl
     .rcases mem_append.mp hz with y |y
      .exact S.wk z y
      .rw [mem_singleton.mp y];exact hw
    .rw [if_neg c1]
     rw[ek]
     exact put _ rfl rfl hw
theorem Xuy {w:Wk}(S:Sh0 m k w):∀p∈w.wk,p.a=0∨p.a=3:=λp hp=>by
 rcases (S.wk p hp).2.2 with z |z
 .exact .inr z.1
 .exact .inl z.1
structure Shp (m:Int) (w:Wk):Prop where
 sh:Sh0 m w.pl.toNat w
 ne:0<=w.pl->w.ah≠[]
 wh:w.pl<0->w.pl = -1/\w.ah=[]
theorem Xo6 {w:Wk}(hm:0<m)(S:Sh0 m k w)(hk:w.pl=k)(ha:w.ah=[]):Shp m w.turn:=by
 have hc:=S.ch
 rw[ha]at hc
 have hc:Xf2 0 (w.wk++[]) m:=hc
 rw[append_nil]at hc
 have hne:w.wk≠[]:=λz=>by
  rw[z]at hc
  have:(0:Int)=m:=hc
  lia
 unfold Wk.turn
 split
 .obtain ⟨j,rfl⟩:∃j,k=j+1:=⟨k-1,by lia⟩
  have ej:(w.pl-1).toNat=j:=by lia
  refine⟨?_,λ_=>by simpa using hne,λz=>?_⟩
  .rw [ej]
   refine⟨?_,(λp hp=>by cases hp),λp hp=>?_,?_⟩
   .rw [List.reverse_reverse]
    exact hc
   .have hw:=S.wk p (by simpa using hp)
    refine⟨hw.1,hw.2.1,?_⟩
    rcases hw.2.2 with z |z
    .exact .inl z
    .exact .inr (.inl ⟨.inl z.1,z.2⟩)
   .refine Xyq λz hz=>?_
    rcases Xuy S z (by simpa using hz) with y |y<;>rw[y]<;>decide
  .have:w.pl-1<0:=z
   lia
 .have e0:k=0:=by lia
  subst e0
  refine⟨?_,λz=>?_,λ_=>⟨by show w.pl-1 = -1;lia,ha⟩⟩
  .rw [show (w.pl-1).toNat=0 by lia]
   exact⟨S.ch,S.wk,S.ah,S.sib⟩
  .have:0<=w.pl-1:=z
   lia
theorem Xrz {w:Wk}(hm:0<m)(S:Sh0 m k w)(hk:w.pl=k):Shp m w.rowEnd:=by
 unfold Wk.rowEnd
 split
 .rename_i c
  exact Xo6 (w:={w with re:=w.re++[w.us]}) hm ⟨S.ch,S.wk,S.ah,S.sib⟩ hk c
 .rename_i c
  refine⟨by rw[show w.pl.toNat=k by lia];exact S,λ_=>c,λz=>by lia⟩
theorem Xtq (hm:0<m)(n:Nat):Shp m (Wk.turn ⟨n,0,[],[⟨0,0,m,1-2^n,2^n-1⟩],[]⟩):=by
 refine Xo6 hm ⟨⟨rfl,hm,rfl⟩,λp hp=>?_,(λp hp=>by cases hp),λah p e=>?_⟩ rfl rfl
 .rw [mem_singleton.mp hp]
  exact⟨Int.le_refl 0,hm,.inr ⟨rfl,rfl,rfl⟩⟩
 .have:=congrArg List.length e
  simp at this
theorem Yga {w:Wk}{ah:List Pa}{p:Pa}{b:Bool}:(w.step ah p b).pl=w.pl/\(w.step ah p b).us=w.us+1/\(w.step ah p b).re=w.re:=by
 unfold Wk.step Wk.calm Wk.wake Wk.walked
 repeat (any_goals split)
 all_goals exact⟨rfl,rfl,rfl⟩
theorem Xwo {xs:List Int}{n:Nat}(h:∀x∈xs,x.natAbs<2^n):Xjz xs (Wk.turn ⟨n,0,[],[⟨0,0,xs.length,1-2^n,2^n-1⟩],[]⟩):=by
 refine (Xu3 (w:=⟨n,0,[],[⟨0,0,xs.length,1-2^n,2^n-1⟩],[]⟩) (by show 0<=(n:Int);lia) rfl (λp hp=>by rw[mem_singleton.mp hp];exact .inl rfl)).mpr ?_
 unfold Xjz
 show Yjo xs ((n:Int).toNat) _
 rw[toNat_natCast]
 refine⟨λp hp=>?_,(λp hp=>by cases hp),Xkj λz hz=>by cases hz⟩
 rw[mem_singleton.mp hp]
 refine⟨λz=>absurd z (by show ¬ (0:Int)=3;decide),λ_ i a b=>?_⟩
 have hi:i<xs.length:=by
  have:(i:Int)<(xs.length:Int):=b
  lia
 rw[getD_eq_getElem?_getD,getElem?_eq_getElem hi]
 exact h _ (getElem_mem hi)
def phi (p:Pa):Nat:=if p.a=3∨p.a=2 then 1 else 3*(p.e-p.s).toNat-1
def Xkh (ps:List Pa):Nat:=(ps.map phi).sum
theorem Xkg (ps qs:List Pa):Xkh (ps++qs)=Xkh ps+Xkh qs:=by simp[Xkh]
theorem Xkf (p:Pa):Xkh [p]=phi p:=by simp[Xkh]
theorem Yc1 (ps:List Pa):Xkh ps.reverse=Xkh ps:=by
 induction ps with
 |nil=>rfl
 |cons p ps ih=>rw[reverse_cons,Xkg,Xkf];simp[Xkh];lia
theorem Yho (h:p.s<p.e):1<=phi p:=by
 unfold phi
 split<;>lia
theorem Yk5 (h:p.s<p.e):phi p<=3*(p.e-p.s).toNat:=by
 unfold phi
 split<;>lia
theorem Xpk:∀{ps:List Pa} {a b:Int},Xf2 a ps b->(Xkh ps:Int)<=3*(b-a)
 | [],a,b,h=>by cases (show a=b from h);simp[Xkh]
 |p::ps,a,b,⟨h1,h2,h3⟩=>by
  have ih:=Xpk h3
  have hp:=Yk5 h2
  have e:Xkh (p::ps)=phi p+Xkh ps:=by simp[Xkh]
  lia
theorem Xuz {w:Wk}{q:Pa}(h1:q.s<q.e)(h3:q.a≠3)(h2:q.a≠2):Xkh (w.wake q).ah+1<=Xkh w.ah+phi q:=by
 have hq:phi q=3*(q.e-q.s).toNat-1:=by
  unfold phi
  rw[if_neg (by rintro (z |z);exact h3 z;exact h2 z)]
 unfold Wk.wake
 split
 .dsimp only
  rw[Xkg,Xkf,hq]
  show Xkh w.ah+1+1<=_
  clear h1;lia
 .rename_i c
  dsimp only
  have hm1:q.s<(q.s+q.e) / 2:=by lia
  have hm2:(q.s+q.e) / 2<q.e:=by lia
  generalize (q.s+q.e) / 2=m at hm1 hm2
  have e:Xkh [(⟨0,m,q.e,q.lo,q.hi⟩:Pa),⟨1,q.s,m,q.lo,q.hi⟩]=(3*(q.e-m).toNat-1)+(3*(m-q.s).toNat-1):=by
   simp[Xkh,phi]
  rw[Xkg,e,hq]
  lia
theorem Xu6 {m:Int}{k:Nat}{w:Wk}{ah:List Pa}{p:Pa}{b:Bool}(S:Sh0 m k w)(e:w.ah=ah++[p]):Xkh (w.step ah p b).ah+1<=Xkh w.ah:=by
 have hb:=S.sib ah p e
 obtain⟨h0,h1,_⟩:=S.ah p (by rw[e];simp)
 have hp:=Yho h1
 rw[e,Xkg,Xkf]
 unfold Wk.step
 split
 .show Xkh ah+1<=_;lia
 .rename_i c3
  split
  .show Xkh ah+1<=_;lia
  .rename_i c2
   split
   .exact Xuz (w:={w with us:=w.us+1,ah:=ah}) h1 c3 c2
   .unfold Wk.calm
    split
    .rename_i c1
     obtain⟨r,q,rfl,qa,q2,q3,q0⟩:=hb.sib c1
     rw[dropLast_concat,getLastD_concat,Xkg,Xkf]
     refine le_trans (Xuz q3 (by rw[qa];decide) (by rw[qa];decide)) ?_
     show Xkh r+phi q<=_
     lia
    .show Xkh ah+1<=_;lia
def mu (m:Nat)(w:Wk):Nat:=if w.pl<0 then 0 else 3*m*w.pl.toNat+Xkh w.ah
theorem Xy7 {m k:Nat}{w:Wk}(S:Sh0 m k w)(hk:w.pl=k):mu m w.rowEnd<=3*m*k+Xkh w.ah:=by
 unfold Wk.rowEnd
 split
 .rename_i c
  unfold Wk.turn
  split
  .rename_i c2
   obtain⟨j,rfl⟩:∃j,k=j+1:=⟨k-1,by have:w.pl-1>=0:=c2;lia⟩
   unfold mu
   dsimp only
   rw[if_neg (by omega),Yc1,show (w.pl-1).toNat=j by omega]
   have hc:=S.ch
   rw[c]at hc
   have hc:Xf2 0 (w.wk++[]) m:=hc
   rw[append_nil]at hc
   have:=Xpk hc
   have e:3*m*(j+1)=3*m*j+3*m:=by rw[Nat.mul_succ]
   lia
  .rename_i c2
   unfold mu
   dsimp only
   rw[if_pos (by have:¬ w.pl-1>=0:=c2;lia)]
   lia
 .unfold mu
  rw[if_neg (by lia),show w.pl.toNat=k by lia]
  exact Nat.le_refl _
inductive Fol:Wk->List Bool->Wk->Prop
 |nil {w:Wk}:Fol w [] w
 |whole {w:Wk} {b:Bool} {bs:List Bool} (h:w.pl<0):Fol w (b::bs) w
 |step {w v:Wk} {ah:List Pa} {p:Pa} {b:Bool} {bs:List Bool} (h:0<=w.pl) (h5:w.pl<=5000) (hf:w.fits) (e:w.ah=ah++[p]) (h1:p.a=1->b=false->ah≠[]) (t:Fol ((w.step ah p b).rowEnd) bs v):Fol w (b::bs) v
def Pa.sp (p:Pa):D:=.tup [.int p.lo,.int p.hi]
def Ygb (w:Wk):List D:=(w.wk++w.ah.reverse).flatMap λp=>List.replicate (p.e-p.s).toNat p.sp
def Xi1:DMo:=λts ds P=>∃(w v:Wk) (bs:List Bool),ts=w.ts/\ds=[.str (Xbt bs)]/\Fol w bs v/\P v.ts
def Xm1:DSp:=λds P=>∃(bs:List Bool) (m:Int) (n:Nat) (v:Wk),ds=[.str (Xbt bs),.int m,.int n]/\n<=5000/\Fol (Wk.turn ⟨n,0,[],[⟨0,0,m,1-2^n,2^n-1⟩],[]⟩) bs v/\P (.ob none "Walk" Xbd v.ts)
abbrev Xgm:Stmt:=Xgw (top 33) 5
theorem Xi6:FnScope ["self","bits","bit"] ["self","bits"] (Xae Xgm):=by walk_at "S"
abbrev Xkz:Stmt:=top 35
theorem Xm5:FnScope ["bits","many","planes","walk"] ["bits","many","planes"] (Xae Xkz):=by walk_at "S"
theorem Xo0 (Df:MetAt K "Walk" "follow" "Walk.follow" Xgm f fd)(B:BltV mg)(KV:KitV K)(CV_Walk:ClsV K "Walk" Xbd)(Xbp:CalM P w K mg base "Walk" "is_whole" 1 ["self"] (spV K 1 Xcy))(Xdt:CalM P w K mg base "Walk" "take" 4 ["self","told"] (spM K 2 "Walk" Xbd Xhr)):
  CalM P w K mg base "Walk" "follow" 5 ["self","bits"] (spM K 2 "Walk" Xbd Xi1):=by
 refine CalM.of Df Xi6 (by walk_at "b") rfl (λc A o s H E hr=>⟨_,_,(Xaj (Xfz PassesOwn.never rfl (Yes (pv 1)) (Xbc (i:=2) Xi6.nd rfl (Or.inl rfl)) (Xag (Xb0 (Xcv (Xin Xbp (hr.mono (by decide)) (pv 0))) (Xaj Ycw) Xa8)
   (Xaj (Xbs (Xh1 Xdt (hr.mono (by decide)) (pv 0) (Xaa (Xgs Xfk (pv 2) Xat (Xbf _)) Xac))))))),
  (Xfy (Yen Xad) Xbe (Xao (Xcd (Xoe (Xby (Xmi CV_Walk (by decide +kernel) Xad Xan))) Yci Xa7)
   (Xgn CV_Walk (by decide +kernel) (Xab (Xaq Xfm Xad (Xap Xas)) Xam)))),?_⟩)
 rintro a ts ds Pr ⟨w,v,bs,rfl,rfl,hF,h⟩
 fin2
 rw[Xpf,map_map]
 refine⟨λi δ=>∃(w':Wk) (o:Option Sl),Fol w' (bs.drop i) v/\δ=[some (.own (.ob (some a) "Walk" Xbd w'.ts)),vD (.str (Xbt bs)),o],⟨w,none,hF,rfl⟩,?_,?_⟩
 .rintro i d δ hd ⟨w',o,hF',rfl⟩
  obtain⟨b,hb,rfl⟩:=Ydg hd
  have hi:=(List.getElem?_eq_some_iff.mp hb).1
  have hdr:bs.drop i=b::bs.drop (i+1):=by
   rw[List.drop_eq_getElem_cons hi]
   rw[getElem?_eq_getElem hi]at hb
   rw[Option.some.inj hb]
  rw[hdr]at hF'
  simp only[gN,Function.comp,set_cons_succ,set_cons_zero]
  gn_on
  refine⟨w',by rw[OV.vals_eq],?_⟩
  fin2
  cases hF' with
  |whole hl=>
   rw[if_pos hl]
   exact h
  | @step _ _ ah p _ _ h0 h5 hf e h1 t=>
   rw[if_neg (by lia)]
   gp_on
   fin2
   refine⟨w',ah,p,b,rfl,hf,by rw[Ydy],e,h0,h5,h1,?_⟩
   exact⟨_,_,t,rfl⟩
 .rintro δ ⟨w',o,hF',rfl⟩
  rw[length_map,drop_length]at hF'
  cases hF'
  exact⟨_,rfl,h⟩
theorem Xuc (Df:DefAt K mg "followed" Xkz f fd)(B:BltV mg)(KV:KitV K)(CV_Walk:ClsV K "Walk" Xbd)(Xcc:CalK P w K mg base "Walk" 2 ["self","many","planes"] (spM K 3 "Walk" Xbd Xd4))(Xg9:CalM P w K mg base "Walk" "follow" 5 ["self","bits"] (spM K 2 "Walk" Xbd Xi1)):
  Cal P w K mg base "followed" 6 ["bits","many","planes"] (spV K 3 Xm1):=by
 refine CalV.of Df Xm5 (by walk_at "b") rfl (λc A o s H E hr=>⟨_,_,(Xag (Xa4 (i:=3) Xm5.nd rfl (Or.inl rfl) (Xzm Xcc (hr.mono (by decide)) (by rfl) (Xaa (pv 1) (Xaa (pv 2) Xac))))
   (Xag (Xbs (Xh1 Xg9 (hr.mono (by decide)) (pv 3) (Xaa (pv 0) Xac)))
   (Xaj (Xaz (pv 3))))),
  (Xao (Xa5 (Xy1 CV_Walk (Xab Xai (Xab Xai Xam))))
   (Xao (Xgn CV_Walk (by decide +kernel) (Xab Xai Xam))
   Xna)),?_⟩)
 rintro ds Pr ⟨bs,m,n,v,rfl,hn,hF,h⟩
 gn_on
 refine⟨m,n,rfl,rfl,hn,?_⟩
 gp_on
 gn_on
 refine⟨_,v,bs,rfl,rfl,hF,?_⟩
 gp_on
 fin2
 exact h
theorem Xy6 {w:Wk}:w.rowEnd.us=w.us/\w.rowEnd.re.length<=w.re.length+1/\w.rowEnd.pl<=w.pl/\(w.rowEnd.re.length:Int)+w.rowEnd.pl<=w.re.length+w.pl:=by
 unfold Wk.rowEnd
 split
 .unfold Wk.turn
  split
  .refine ⟨rfl,by simp,by show w.pl-1<=w.pl;lia,?_⟩
   show (((w.re++[w.us]).length:Nat):Int)+(w.pl-1)<=_
   rw[length_append,length_singleton];lia
  .refine ⟨rfl,by simp,by show w.pl-1<=w.pl;lia,?_⟩
   show (((w.re++[w.us]).length:Nat):Int)+(w.pl-1)<=_
   rw[length_append,length_singleton];lia
 .exact ⟨rfl,by lia,Int.le_refl _,Int.le_refl _⟩
theorem Ycd {m:Nat}{w:Wk}(S:Shp m w)(hm:m<400000)(hr:w.re.length<900000):w.fits:=by
 have:=Xq1 S.sh.ch
 rw[length_append,length_reverse]at this
 exact⟨hr,by lia,by lia⟩
theorem Yb9 {xs:List Int}{m:Nat}(hx:xs.length=m)(hm0:0<m)(hm:m<400000):∀(N:Nat) (w:Wk),mu m w<=N->Shp m w->Xjz xs w->w.pl<=5000->(w.re.length:Int)+w.pl<800000->
  ∃bs v,Tell xs w bs/\Fol w bs v/\v.pl<0/\Shp m v/\Xjz xs v/\bs.length<=mu m w/\v.us=w.us+bs.length:=by
 intro N
 induction N with
 |zero=>
  intro w hN S C h5 hr
  by_cases hp:w.pl<0
  .exact ⟨[],w,.done hp,.nil,hp,S,C,zero_le _,by simp⟩
  .obtain ⟨ah,p,e⟩:∃ah p,w.ah=ah++[p]:=⟨_,_,(List.dropLast_concat_getLast (S.ne (by lia))).symm⟩
   have:=Xu6 (b:=true) S.sh e
   unfold mu at hN
   rw[if_neg hp]at hN
   lia
 |succ N ih=>
  intro w hN S C h5 hr
  by_cases hp:w.pl<0
  .exact ⟨[],w,.done hp,.nil,hp,S,C,zero_le _,by simp⟩
  .obtain ⟨k,hk⟩:∃k:Nat,w.pl=k:=⟨w.pl.toNat,by lia⟩
   have ek:w.pl.toNat=k:=by lia
   obtain⟨ah,p,e⟩:∃ah p,w.ah=ah++[p]:=⟨_,_,(List.dropLast_concat_getLast (S.ne (by lia))).symm⟩
   have S0:Sh0 m k w:=ek▸S.sh
   have hA:=S0.ah p (by rw[e];simp)
   have hmem:=Xnz (p:=p) S0.ch (by rw[e];simp)
   have hB:=S0.sib ah p e
   have S1:=Xwn (b:=Xmr xs (k:Int) p) S0 hk e
   obtain⟨q1,q2,q3⟩:=Yga (b:=Xmr xs (k:Int) p)
   have hk1:(w.step ah p (Xmr xs (k:Int) p)).pl=k:=by rw[q1];exact hk
   have S2:=Xrz (by lia) S1 hk1
   have C1:Yjo xs k (w.step ah p (Xmr xs (k:Int) p)):=(Ycc hk e hA hB (by rw[hx];exact hmem.2.2)).mpr ⟨by unfold Xjz at C;rw[ek]at C;exact C,rfl⟩
   have C2:Xjz xs (w.step ah p (Xmr xs (k:Int) p)).rowEnd:=(Xw0 (by rw[hk1];lia) (Xuy S1)).mpr (by unfold Xjz;rw[hk1];exact C1)
   obtain⟨r1,r2,r3,r4⟩:=Xy6 (w:=w.step ah p (Xmr xs (k:Int) p))
   have hmu:=Xy7 S1 hk1
   have hphi:=Xu6 (b:=Xmr xs (k:Int) p) S0 e
   have hw:mu m w=3*m*k+Xkh w.ah:=by unfold mu;rw[if_neg hp,ek]
   rw[ q3]at r4
   obtain⟨bs,v,t1,t2,t3,t4,t5,t6,t7⟩:=ih _ (by lia) S2 C2 (by (clear hx hm0 hm hN hmem r2 hmu hw;lia)) (by (clear hx hm0 hm hN hmem hmu hw;lia))
   have hf:=Ycd S hm (by (clear hx hm0 hm hN hmem hmu hw t3 t6 t7;lia))
   have hone:p.a=1->Xmr xs (k:Int) p=false->ah≠[]:=λz _=>by
    obtain⟨r,q,er,_⟩:=hB.sib z
    rw[er];simp
   refine⟨Xmr xs (k:Int) p::bs,v,?_,?_,t3,t4,t5,?_,?_⟩
   .have:=Tell.step (by (clear hx hm0 hm hN hmem hmu hw t3 t6 t7;lia)) h5 hf e ⟨hmem.1,hmem.2.1,by rw[hx];exact hmem.2.2⟩ (by rw[hk];exact hone) (by rw[hk];exact t1)
    rw[hk]at this
    exact this
   .exact Fol.step (by (clear hx hm0 hm hN hmem hmu hw t3 t6 t7;lia)) h5 hf e hone t2
   .rw [length_cons];(clear hN t3 t7;lia)
   .rw [t7,r1,length_cons];lia
theorem Ya6 {w:Wk}(h:Fol w bs v)(hv:v.pl<0):Fol w (bs++cs) v:=by
 induction h with
 |nil=>
  cases cs with
  |nil=>exact .nil
  |cons c cs=>exact .whole hv
 |whole h=>exact .whole h
 |step h h5 hf e h1 t ih=>exact .step h h5 hf e h1 (ih hv)
theorem Xtr (m n:Nat):(Wk.turn ⟨n,0,[],[⟨0,0,m,1-2^n,2^n-1⟩],[]⟩).pl=n-1/\(Wk.turn ⟨n,0,[],[⟨0,0,m,1-2^n,2^n-1⟩],[]⟩).re=[]/\(Wk.turn ⟨n,0,[],[⟨0,0,m,1-2^n,2^n-1⟩],[]⟩).us=0/\mu m (Wk.turn ⟨n,0,[],[⟨0,0,m,1-2^n,2^n-1⟩],[]⟩)<=3*m*n:=by
 unfold Wk.turn
 split
 .rename_i c
  refine⟨rfl,rfl,rfl,?_⟩
  have c:(n:Int)-1>=0:=c
  obtain⟨k,rfl⟩:∃k,n=k+1:=⟨n-1,by lia⟩
  unfold mu
  rw[if_neg (by show ¬ ((k+1:Nat):Int)-1<0;lia)]
  show 3*m*(((k+1:Nat):Int)-1).toNat+Xkh [_]<=_
  rw[Xkf,show (((k+1:Nat):Int)-1).toNat=k by lia]
  unfold phi
  show 3*m*k+(3*((m:Int)-0).toNat-1)<=3*m*(k+1)
  rw[mul_add]
  lia
 .rename_i c
  have c:¬ (n:Int)-1>=0:=c
  refine⟨rfl,rfl,rfl,?_⟩
  unfold mu
  rw[if_pos (by show (n:Int)-1<0;lia)]
  exact zero_le _
theorem Xv9 {α:Type}(f:Pa->α):∀{ps:List Pa} {a b:Int} {p:Pa} {i:Int},Xf2 a ps b->p∈ps->p.s<=i->i<p.e->(ps.flatMap λp=>List.replicate (p.e-p.s).toNat (f p))[(i-a).toNat]?=some (f p)
 |q :: ps,a,b,p,i,⟨h1,h2,h3⟩,hp,hi1,hi2=>by
  rw[flatMap_cons]
  rcases mem_cons.mp hp with rfl |hp'
  .rw [getElem?_append_left (by rw[length_replicate];lia),List.getElem?_replicate,if_pos (by lia)]
  .have:=(Xnz h3 hp').1
   rw[getElem?_append_right (by rw[length_replicate];lia),length_replicate]
   have:=Xv9 f h3 hp' hi1 hi2
   rw[show (i-a).toNat-(q.e-q.s).toNat=(i-q.e).toNat by lia]
   exact this
theorem Xn0:∀{ps:List Pa} {a b i:Int},Xf2 a ps b->a<=i->i<b->∃p∈ps,p.s<=i/\i<p.e
 | [],a,b,i,h,h1,h2=>by cases (show a=b from h);omega
 |q :: ps,a,b,i,⟨h1,h2,h3⟩,hi1,hi2=>by
  by_cases h:i<q.e
  .exact ⟨q,by simp,by lia,h⟩
  .obtain ⟨p,hp,h4⟩:=Xn0 h3 (show q.e<=i by lia) hi2
   exact⟨p,by simp[hp],h4⟩
theorem part_at {m:Nat}{w:Wk}(S:Shp m w){i:Nat}(hi:i<m):∃p∈w.wk++w.ah,p.s<=i/\(i:Int)<p.e/\(Ygb w)[i]?=some p.sp:=by
 obtain⟨p,hp,h1,h2⟩:=Xn0 S.sh.ch (show (0:Int)<=i by lia) (by lia)
 refine⟨p,by simpa using hp,h1,h2,?_⟩
 have:=Xv9 Pa.sp S.sh.ch hp h1 h2
 exact this
abbrev Xjf:Stmt:=top 38
theorem Xrm:FnScope ["some"] ["some"] (Xae Xjf):=by walk_at "S"
def Xll:DSp:=λds P=>∃xs:List Int,ds=[.lst (xs.map .int)]/\0<xs.length/\xs.length<=1000000/\∀M:Nat,(∃x∈xs,ibN x=M)->(∀x∈xs,ibN x<=M)->P (.fz (.int M))
theorem Xsh (Df:DefAt K mg "planes_of" Xjf f fd)(B:BltV mg)(KV:KitV K)(Xda:Cal P w K mg base "heights_of" 1 ["some"] (spV K 1 Xf5)):
  Cal P w K mg base "planes_of" 2 ["some"] (spV K 1 Xll):=by
 refine CalV.of Df Xrm (by walk_at "b") rfl (λc A o s H E hr=>⟨_,_,(Xaj (Xaz (Xar (Xtc rfl) (by rfl) B.max boot_max (Xaa (Xa6 Xda (hr.mono (by decide)) (by rfl) (Xaa (pv 0) Xac)) Xac)))),
  (Xa2 (Xa0 (Xbl Ybv (Xaf (Xap (Xby (Xa1 (Xab Xai Xam)))) Xan)))),?_⟩)
 rintro ds Pr ⟨xs,rfl,x0,hx,k⟩
 fin2
 refine⟨xs,rfl,hx,?_⟩
 fin2
 refine⟨xs.map λx=>(ibN x:Int),by simp only[map_map,Function.comp_def,OV.val],by simpa using x0,λM hM hA=>?_⟩
 obtain⟨x,hm,rfl⟩:=mem_map.mp hM
 refine k (ibN x) ⟨x,hm,rfl⟩ λy hy=>?_
 have:=hA (ibN y) (mem_map.mpr ⟨y,hy,rfl⟩)
 omega
def nbL (t m s:Int):Int:=if t-s<0 then t+s else t-s
def nbR (t m s:Int):Int:=if m<=t+s then t-s else t+s
abbrev Xht:Stmt:=top 58
theorem Xf7:FnScope ["at","many","stride","left","right"] ["at","many","stride"] (Xae Xht):=by walk_at "S"
def Xeb:DSp:=λds P=>match ds with
 | [.int t,.int m,.int s]=>if t-s<0/\m<=t+s then P (.fz .non) else P (.fz (.tup [.int (nbL t m s),.int (nbR t m s)]))
 |_=>False
theorem Xql (Df:DefAt K mg "neighbours" Xht f fd)(B:BltV mg)(KV:KitV K):
  Cal P w K mg base "neighbours" 1 ["at","many","stride"] (spV K 3 Xeb):=by
 refine CalV.of Df Xf7 (by walk_at "b") rfl (λc A o s H E hr=>⟨_,_,(Xag (Xa4 (i:=3) Xf7.nd rfl (Or.inl rfl) (Xaw Xea (pv 0) (pv 2)))
   (Xag (Xa4 (i:=4) Xf7.nd rfl (Or.inl rfl) (Xaw Xdj (pv 0) (pv 2)))
   (Xag (Xb0 (Xzg (Xbb Xt9 (pv 3) Xal (Xbf _)) (Xt2 (Xbb Yhv (pv 4) (pv 1) (Xbf _)))).pt (Xaj (Xaz Xzl)) Xa8)
   (Xag (Xb0 (Xbb Xt9 (pv 3) Xal (Xbf _)) (Xaj (Xaz (Xbw (Xaa (pv 4) (Xaa (pv 4) Xac))))) Xa8)
   (Xag (Xb0 (Xbb Yhv (pv 4) (pv 1) (Xbf _)) (Xaj (Xaz (Xbw (Xaa (pv 3) (Xaa (pv 3) Xac))))) Xa8)
   (Xaj (Xaz (Xbw (Xaa (pv 3) (Xaa (pv 4) Xac)))))))))),
  (Xao (Xa5 (Xa0 (Xaq Xcl Xad Xad)))
   (Xao (Xa5 (Xa0 (Xaq Xcl Xad Xad)))
   (Xao (Xcd (Xyv (Xa9 (Xaq Xhf Xad (Xap Xah))) (Xa9 (Xaq Xhf Xad Xad))) (Xa2 (Xa0 Xy5)) Xa7)
   (Xao (Xcd (Xa9 (Xaq Xhf Xad (Xap Xah))) (Xa2 (Xa0 (Xcp (Xab Xai (Xab Xai Xam))))) Xa7)
   (Xao (Xcd (Xa9 (Xaq Xhf Xad Xad)) (Xa2 (Xa0 (Xcp (Xab Xai (Xab Xai Xam))))) Xa7)
   (Xa2 (Xa0 (Xcp (Xab Xai (Xab Xai Xam)))))))))),?_⟩)
 intro ds Pr h
 unfold Xeb at h
 split at h
 .rename_i t m s'
  fin2
  unfold nbL nbR at h
  by_cases h1:t-s'<0<;>by_cases h2:m<=t+s'<;>simpa[h1,h2] using h
 .exact h.elim
theorem Xvz (xs:List Int)(t p:Nat)(v:Int)(h:t<xs.length):(xs.set t v).getD p 0=if p=t then v else xs.getD p 0:=by
 rw[getD_eq_getElem?_getD,getD_eq_getElem?_getD,getElem?_set]
 by_cases e:p=t
 .subst e
  rw[if_pos rfl,if_pos rfl,if_pos h];rfl
 .rw [if_neg (λz=>e z.symm),if_neg e]
theorem Xv1 {F:Nat->List Int->Int}(S:Nat->Prop)(n:Nat)(hF:∀t xs ys,xs.length=n->ys.length=n->S t->t<n->(∀p,p=t∨¬ S p->xs.getD p 0=ys.getD p 0)->F t xs=F t ys):
  ∀(ts:List Nat) (xs:List Int),xs.length=n->ts.Nodup->(∀t∈ts,S t/\t<n)->
   (ts.foldl (λxs t=>xs.set t (F t xs)) xs).length=n/\∀p,(ts.foldl (λxs t=>xs.set t (F t xs)) xs).getD p 0=if p∈ts then F p xs else xs.getD p 0
 | [],xs,hl,_,_=>⟨hl,λp=>by simp⟩
 |t :: ts,xs,hl,nd,hs=>by
  obtain⟨n1,n2⟩:=nodup_cons.mp nd
  obtain⟨st,lt⟩:=hs t mem_cons_self
  obtain⟨e1,e2⟩:=Xv1 S n hF ts (xs.set t (F t xs)) (by rw[length_set];exact hl) n2 λu hu=>hs u (mem_cons_of_mem _ hu)
  refine⟨e1,λp=>?_⟩
  rw[foldl_cons,e2 p]
  by_cases hp:p∈ts
  .rw [if_pos hp,if_pos (mem_cons_of_mem _ hp)]
   obtain⟨sp,lp⟩:=hs p (mem_cons_of_mem _ hp)
   refine hF p _ _ (by rw[length_set];exact hl) hl sp lp λq hq=>?_
   rw[Xvz _ _ _ _ (by lia),if_neg]
   rintro rfl
   rcases hq with rfl |hq
   .exact n1 hp
   .exact hq st
  .rw [if_neg hp,Xvz _ _ _ _ (by lia)]
   by_cases e:p=t
   .subst e;rw[if_pos rfl,if_pos mem_cons_self]
   .rw [if_neg e,if_neg]
    intro z
    rcases mem_cons.mp z with z |z
    .exact e z
    .exact hp z
structure Lf where
 h:Int
 l:Int
 r:Int
 a:Int
 s:Int
structure Lf.Ok (f:Lf):Prop where
 h:f.h=0∨f.h=1
 l : -8<=f.l/\f.l<=8
 r : -8<=f.r/\f.r<=8
 a : -64<=f.a/\f.a<=64
 s:0<=f.s/\f.s<=8
def Xxn (f:Lf)(x y:Int):Int:=(f.l*x+f.r*y+f.a) / 2^f.s.toNat
def Yft (h n st:Int):Nat:=(if h*st<n then (n-h*st-1) / (2*st)+1 else 0).toNat
theorem Xv8 {st:Int}(hs:0<st)(i:Nat):i<Yft h n st↔h*st+(i:Int)*(2*st)<n:=by
 unfold Yft
 have h2:0<2*st:=by lia
 have h0:0<=(i:Int)*(2*st):=mul_nonneg (by lia) (by lia)
 split
 .have e:=Int.le_ediv_iff_mul_le (a:=(i:Int)) (b:=n-h*st-1) h2
  constructor
  .intro z
   lia
  .intro z
   lia
 .lia
def Xfq (h n st:Int):List Int:=if n<=st then [] else (List.range (Yft h n st)).map λ(i:Nat)=>h*st+(i:Int)*(2*st)
theorem Xhz {st:Int}(hs:0<st):t∈Xfq h n st↔¬ n<=st/\t<n/\∃i:Nat,t=h*st+(i:Int)*(2*st):=by
 unfold Xfq
 split
 .rename_i hn
  constructor
  .intro z;cases z
  .intro z;exact absurd hn z.1
 .rename_i hn
  rw[mem_map]
  constructor
  .rintro ⟨i,hi,rfl⟩
   exact⟨hn,(Xv8 hs i).mp (mem_range.mp hi),i,rfl⟩
  .rintro ⟨_,h1,i,rfl⟩
   exact⟨i,mem_range.mpr ((Xv8 hs i).mpr h1),rfl⟩
theorem Xr6 {st:Int}(hs:0<st):(Xfq h n st).Nodup:=by
 unfold Xfq
 split
 .exact nodup_nil
 .refine List.Pairwise.map _ (λi j hij=>?_) List.nodup_range
  intro e
  have:(i:Int)*(2*st)=(j:Int)*(2*st):=by lia
  have:=Int.eq_of_mul_eq_mul_right (by lia) this
  lia
theorem Xz6 {st:Int}(hs:0<st)(hh:h=0∨h=1)(ht:t∈Xfq h n st):(0<=t/\t<n)/\(0<=nbL t n st/\nbL t n st<n)/\(0<=nbR t n st/\nbR t n st<n)/\¬ (t-st<0/\n<=t+st):=by
 obtain⟨h1,h2,i,rfl⟩:=(Xhz hs).mp ht
 have hi:0<=(i:Int)*(2*st):=mul_nonneg (by lia) (by lia)
 have hz:0<=h*st:=by rcases hh with rfl |rfl<;>lia
 have key:h*st+(i:Int)*(2*st)-st<0->h*st+(i:Int)*(2*st)=0:=by
  intro z
  rcases Nat.eq_zero_or_pos i with rfl |hp
  .rcases hh with rfl |rfl
   .simp
   .simp at z ⊢<;>omega
  .have:1*(2*st)<=(i:Int)*(2*st):=Int.mul_le_mul_of_nonneg_right (by lia) (by lia)
   lia
 generalize h*st+(i:Int)*(2*st)=t at *
 unfold nbL nbR
 refine⟨⟨by lia,h2⟩,?_,?_,λz=>?_⟩
 .split<;>rename_i z
  .have:=key z;lia
  .lia
 .split
  .by_cases z:t-st<0
   .have:=key z;omega
   .lia
  .lia
 .have:=key z.1;lia
theorem Xvq {st:Int}(hs:0<st)(ht:∃i:Nat,t=h*st+(i:Int)*(2*st))(hu:u=nbL t n st∨u=nbR t n st):¬ ∃j:Nat,u=h*st+(j:Int)*(2*st):=by
 rintro⟨j,hj⟩
 obtain⟨i,hi⟩:=ht
 have key:∀d:Int,d=1∨d = -1->¬ (t+d*st=h*st+(j:Int)*(2*st)):=by
  intro d hd e
  have e2:((j:Int)-i)*(2*st)=d*st:=by rw[Int.sub_mul];lia
  have e3:(((j:Int)-i)*2-d)*st=0:=by rw[Int.sub_mul,mul_assoc];omega
  rcases Int.mul_eq_zero.mp e3 with z |z
  .rcases hd with rfl |rfl<;>lia
  .lia
 have k1:=key 1 (.inl rfl)
 have k2:=key (-1) (.inr rfl)
 unfold nbL nbR at hu
 rcases hu with rfl |rfl
 .split at hj
  .exact k1 (by lia)
  .exact k2 (by lia)
 .split at hj
  .exact k2 (by lia)
  .exact k1 (by lia)
def Xlh (sg:Int)(f:Lf)(st:Int)(xs:List Int)(t:Int):Int:=
 xs.getD t.toNat 0+sg*Xxn f (xs.getD (nbL t xs.length st).toNat 0) (xs.getD (nbR t xs.length st).toNat 0)
def Xrb (sg:Int)(f:Lf)(st:Int)(xs:List Int)(t:Int):List Int:=xs.set t.toNat (Xlh sg f st xs t)
def Xsx (sg:Int)(f:Lf)(st:Int)(xs:List Int):List Int:=(Xfq f.h xs.length st).foldl (Xrb sg f st) xs
theorem Xs9 (sg:Int)(f:Lf)(st:Int):∀(ts:List Int) (xs:List Int),(∀t∈ts,0<=t)->ts.foldl (Xrb sg f st) xs=(ts.map Int.toNat).foldl (λxs t=>xs.set t (Xlh sg f st xs (t:Int))) xs
 | [],_,_=>rfl
 |t::ts,xs,h=>by
  rw[map_cons,foldl_cons,foldl_cons,Xs9 sg f st ts _ λu hu=>h u (mem_cons_of_mem _ hu)]
  have:=h t mem_cons_self
  unfold Xrb
  rw[show ((t.toNat:Nat):Int)=t by lia]
theorem Yac {st:Int}(hs:0<st)(hh:f.h=0∨f.h=1)(k:Nat):
  (((Xfq f.h xs.length st).take k).foldl (Xrb sg f st) xs).length=xs.length/\
  ∀p:Nat,(((Xfq f.h xs.length st).take k).foldl (Xrb sg f st) xs).getD p 0=if (p:Int)∈(Xfq f.h xs.length st).take k then Xlh sg f st xs p else xs.getD p 0:=by
 by_cases hn:(xs.length:Int)<=st
 .have e:Xfq f.h xs.length st=[]:=if_pos hn
  rw[e]
  exact⟨by simp,λp=>by simp⟩
 have nn:∀t∈(Xfq f.h xs.length st).take k,0<=t/\t<xs.length/\t∈Xfq f.h xs.length st:=λt ht=>by
  have hm:=mem_of_mem_take ht
  have:=(Xz6 hs hh hm).1
  exact⟨this.1,this.2,hm⟩
 rw[Xs9 sg f st _ xs λt ht=>(nn t ht).1]
 have nd:(((Xfq f.h xs.length st).take k).map Int.toNat).Nodup:=by
  rw[List.Nodup,List.pairwise_map]
  refine List.Pairwise.imp_of_mem (R:=λa b=>a≠b) (λ{a b} ha hb hab e=>hab ?_) ((Xr6 hs).sublist (List.take_sublist _ _))
  have:=(nn a ha).1
  have:=(nn b hb).1
  lia
 obtain⟨e1,e2⟩:=Xv1 (F:=λt ys=>Xlh sg f st ys (t:Int)) (λp=>∃i:Nat,(p:Int)=f.h*st+(i:Int)*(2*st)) xs.length (λt ys zs hy hz ht hlt hp=>by
   unfold Xlh
   have hm:(t:Int)∈Xfq f.h xs.length st:=(Xhz hs).mpr ⟨hn,by (clear hn;lia),ht⟩
   obtain⟨_,b1,b2,_⟩:=Xz6 hs hh hm
   rw[hy,hz]
   have a1:=hp (nbL t xs.length st).toNat (.inr λz=>Xvq hs ht (.inl rfl) (by rw[show (((nbL (t:Int) xs.length st).toNat:Nat):Int)=nbL t xs.length st by omega]at z;exact z))
   have a2:=hp (nbR t xs.length st).toNat (.inr λz=>Xvq hs ht (.inr rfl) (by rw[show (((nbR (t:Int) xs.length st).toNat:Nat):Int)=nbR t xs.length st by omega]at z;exact z))
   rw[a1,a2,hp _ (.inl (by lia))]) _ xs rfl nd (λt ht=>by
   obtain⟨u,hu,rfl⟩:=mem_map.mp ht
   obtain⟨h1,h2,h3⟩:=nn u hu
   obtain⟨_,_,i,hi⟩:=(Xhz hs).mp h3
   exact⟨⟨i,by lia⟩,by lia⟩)
 refine⟨e1,λp=>?_⟩
 rw[e2 p]
 have:p∈((Xfq f.h xs.length st).take k).map Int.toNat↔(p:Int)∈(Xfq f.h xs.length st).take k:=by
  constructor
  .intro z
   obtain⟨u,hu,e⟩:=mem_map.mp z
   have:=(nn u hu).1
   rw[show (p:Int)=u by (clear hs hn e1;lia)];exact hu
  .intro z
   exact mem_map.mpr ⟨_,z,by (clear hs hn e1;lia)⟩
 by_cases hp:(p:Int)∈(Xfq f.h xs.length st).take k
 .rw [if_pos hp,if_pos (this.mpr hp)]
 .rw [if_neg hp,if_neg λz=>hp (this.mp z)]
theorem Xvu {st:Int}(hs:0<st)(hh:f.h=0∨f.h=1):
  (Xsx sg f st xs).length=xs.length/\∀p:Nat,(Xsx sg f st xs).getD p 0=if (p:Int)∈Xfq f.h xs.length st then Xlh sg f st xs p else xs.getD p 0:=by
 have h:=Yac (sg:=sg) (xs:=xs) hs hh (Xfq f.h xs.length st).length
 rw[take_length]at h
 exact h
def Xb8 (fs:List Lf)(st:Int)(xs:List Int):List Int:=fs.foldl (λxs f=>Xsx 1 f st xs) xs
theorem Xr2 {st:Int}(hs:0<st):∀{fs:List Lf} (xs:List Int),(∀f∈fs,f.h=0∨f.h=1)->(Xb8 fs st xs).length=xs.length
 | [],_,_=>rfl
 |f::fs,xs,h=>by
  unfold Xb8
  exact (Xr2 hs (Xsx 1 f st xs) λg hg=>h g (mem_cons_of_mem _ hg)).trans (Xvu hs (h f mem_cons_self)).1
section GL
variable {α β:Type}
theorem Yav (z:α)(xs:List α)(t p:Nat)(v:α)(h:t<xs.length):(xs.set t v).getD p z=if p=t then v else xs.getD p z:=by
 rw[getD_eq_getElem?_getD,getD_eq_getElem?_getD,getElem?_set]
 by_cases e:p=t
 .subst e
  rw[if_pos rfl,if_pos rfl,if_pos h];rfl
 .rw [if_neg (λz=>e z.symm),if_neg e]
theorem Ybb (z:α){xs ys:List α}(hl:xs.length=ys.length)(h:∀p:Nat,p<xs.length->xs.getD p z=ys.getD p z):xs=ys:=by
 refine List.ext_getElem hl λi h1 h2=>?_
 have:=h i h1
 rw[getD_eq_getElem?_getD,getD_eq_getElem?_getD,getElem?_eq_getElem h1,getElem?_eq_getElem h2]at this
 exact this
def Xnx (z:α)(G:α->α->α->α)(st:Int)(xs:List α)(t:Int):α:=G (xs.getD t.toNat z) (xs.getD (nbL t xs.length st).toNat z) (xs.getD (nbR t xs.length st).toNat z)
def Ya0 (z:α)(G:α->α->α->α)(st:Int)(xs:List α)(t:Int):List α:=xs.set t.toNat (Xnx z G st xs t)
def Xum (z:α)(G:α->α->α->α)(h st:Int)(xs:List α):List α:=(Xfq h xs.length st).foldl (Ya0 z G st) xs
theorem Xs5 {G:α->α->α->α}{st:Int}:∀(ts:List Int) (xs:List α),(ts.foldl (Ya0 z G st) xs).length=xs.length
 | [],_=>rfl
 |t::ts,xs=>by
  rw[foldl_cons,Xs5 ts]
  exact length_set
theorem Yo7 {G:α->α->α->α}{st:Int}(hs:0<st)(hh:h=0∨h=1):∀(k:Nat),
  (((Xfq h xs.length st).take k).foldl (Ya0 z G st) xs).length=xs.length/\
  ∀p:Nat,(((Xfq h xs.length st).take k).foldl (Ya0 z G st) xs).getD p z=if (p:Int)∈(Xfq h xs.length st).take k then Xnx z G st xs p else xs.getD p z
 | 0=>⟨rfl,λp=>rfl⟩
 |k + 1 => by
  obtain⟨l1,g1⟩:=Yo7 hs hh k
  by_cases hk:k<(Xfq h xs.length st).length
  .rw [List.take_succ_eq_append_getElem hk,foldl_append]
   have htm:(Xfq h xs.length st)[k]∈Xfq h xs.length st:=getElem_mem hk
   generalize ht:(Xfq h xs.length st)[k]=t at htm ⊢
   obtain⟨b0,b1,b2,_⟩:=Xz6 hs hh htm
   obtain⟨_,_,i,hi⟩:=(Xhz hs).mp htm
   have o1:¬ nbL t xs.length st∈(Xfq h xs.length st).take k:=λz=>Xvq hs ⟨i,hi⟩ (.inl rfl) ((Xhz hs).mp (mem_of_mem_take z)).2.2
   have o2:¬ nbR t xs.length st∈(Xfq h xs.length st).take k:=λz=>Xvq hs ⟨i,hi⟩ (.inr rfl) ((Xhz hs).mp (mem_of_mem_take z)).2.2
   have o0:¬ t∈(Xfq h xs.length st).take k:=λz=>by
    obtain⟨q,hq,eq⟩:=List.mem_iff_getElem.mp z
    rw[length_take]at hq
    rw[List.getElem_take]at eq
    have hne:=List.pairwise_iff_getElem.mp (Xr6 hs) q k (by (clear l1 hi eq;lia)) hk (by (clear l1 hi eq;lia))
    exact hne (by rw[eq,ht])
   generalize ((Xfq h xs.length st).take k).foldl (Ya0 z G st) xs=wc at l1 g1
   have e0:Xnx z G st wc t=Xnx z G st xs t:=by
    unfold Xnx
    rw[l1,g1,g1,g1,show ((t.toNat:Nat):Int)=t by (clear ht l1;lia),if_neg o0,show (((nbL t xs.length st).toNat:Nat):Int)=nbL t xs.length st by (clear ht hi l1;lia),if_neg o1,show (((nbR t xs.length st).toNat:Nat):Int)=nbR t xs.length st by (clear ht hi l1;lia),if_neg o2]
   refine⟨by rw[foldl_cons];show (wc.set _ _).length=_;rw[length_set];exact l1,λp=>?_⟩
   show (wc.set t.toNat (Xnx z G st wc t)).getD p z=_
   rw[Yav z wc t.toNat p _ (by (clear ht;lia)),e0,g1 p]
   by_cases e:p=t.toNat
   .have e':(p:Int)=t:=by (clear ht l1;lia)
    rw[if_pos e,if_pos (by rw[e'];simp),e']
   .rw [if_neg e]
    have:((p:Int)∈(Xfq h xs.length st).take k++[t])↔(p:Int)∈(Xfq h xs.length st).take k:=by
     rw[mem_append,mem_singleton]
     constructor
     .rintro (q |q)
      .exact q
      .clear ht l1;lia
     .exact .inl
    by_cases hp:(p:Int)∈(Xfq h xs.length st).take k
    .rw [if_pos hp,if_pos (this.mpr hp)]
    .rw [if_neg hp,if_neg λq=>hp (this.mp q)]
  .rw [take_of_length_le (by lia)]
   rw[take_of_length_le (by lia)]at l1 g1
   exact⟨l1,g1⟩
theorem Yn5 {G:α->α->α->α}{st:Int}(hs:0<st)(hh:h=0∨h=1):
  (Xum z G h st xs).length=xs.length/\∀p:Nat,(Xum z G h st xs).getD p z=if (p:Int)∈Xfq h xs.length st then Xnx z G st xs p else xs.getD p z:=by
 have q:=Yo7 (z:=z) (G:=G) (xs:=xs) hs hh (Xfq h xs.length st).length
 rw[take_length]at q
 exact q
theorem Ya2 {G:α->α->α->α}{st:Int}:(Xum z G h st xs).length=xs.length:=Xs5 _ _
theorem Xs7 {G:Lf->α->α->α->α}{st:Int}:∀(gs:List Lf) (xs:List α),(gs.foldl (λxs f=>Xum z (G f) f.h st xs) xs).length=xs.length
 | [],_=>rfl
 |g::gs,xs=>by rw[foldl_cons,Xs7 gs,Ya2]
end GL
theorem Xqb {lo:Int}(hc:0<c)(i:Nat):i<Xhx lo hi c↔lo+(i:Int)*c<hi:=by
 unfold Xhx Builtin.Range.rangeSize
 rw[if_pos (show c > 0 from hc)]
 have h0:0<=(i:Int)*c:=mul_nonneg (by lia) (by lia)
 split
 .have e:=Int.le_ediv_iff_mul_le (a:=(i:Int)) (b:=hi-lo-1) hc
  have e0:0<=(hi-lo-1) / c:=Int.ediv_nonneg (by lia) (by lia)
  constructor
  .intro z
   have:=e.mp (by omega)
   lia
  .intro z
   have:=e.mpr (by lia)
   lia
 .simp only[Int.toNat_zero]
  lia
theorem Xlt {a b:Nat}(h:∀i,i<a↔i<b):a=b:=by
 rcases Nat.lt_trichotomy a b with z |z |z
 .exact absurd ((h a).mpr z) (lt_irrefl _)
 .exact z
 .exact absurd ((h b).mp z) (lt_irrefl _)
section PT
variable {α:Type}
end PT
theorem Yam {n:Nat}{i:Int}(h0:0<=i)(h:i<n):ixN n i=some i.toNat:=by
 unfold ixN
 rw[if_pos h0,if_pos h]
theorem Yjf {α:Type}(z:α){g:α->D}{xs:List α}{i:Int}(h0:0<=i)(h:i<xs.length):atI (xs.map g) i=some (g (xs.getD i.toNat z)):=by
 have hi:i.toNat<xs.length:=by lia
 have e:=Xc7 (xs:=xs.map g) (j:=i.toNat) (v:=g (xs.getD i.toNat z)) (by simp[hi])
 rwa[show ((i.toNat:Nat):Int)=i by lia]at e
theorem Xx4 {α:Type}{xs:List α}{g:α->D}:List.map OV.val (xs.map λx=>OV.fz (g x))=xs.map g:=by
 rw[map_map];rfl
theorem Yha {st:Int}(hs:0<st):Xhx (h*st) n (2*st)=Yft h n st:=by
 unfold Xhx Yft Builtin.Range.rangeSize
 rw[if_pos (show 2*st > 0 by lia)]
def Yer (h n st:Int)(k:Nat):List Int:=if n<=st then [] else (List.range k).map λ(i:Nat)=>h*st+(i:Int)*(2*st)
def plD (n st:Int)(t:Int):D:=.tup [.int t,.int (nbL t n st),.int (nbR t n st)]
abbrev Xeq:Stmt:=top 59
theorem Xcz:FnScope ["half","many","stride","found","at","pair"] ["half","many","stride"] (Xae Xeq):=by walk_at "S"
def Xcx:DSp:=λds P=>match ds with
 | [.int h,.int n,.int st]=>((h=0∨h=1)/\0<st/\st<=64/\0<=n/\n<=100000)/\P (.nl ((Xfq h n st).map λt=>.fz (plD n st t)))
 |_=>False
theorem Xl4 (Df:DefAt K mg "lifted_places" Xeq f fd)(B:BltV mg)(KV:KitV K)(Xia:Cal P w K mg base "neighbours" 1 ["at","many","stride"] (spV K 3 Xeb)):
  Cal P w K mg base "lifted_places" 2 ["half","many","stride"] (spV K 3 Xcx):=by
 refine CalV.of Df Xcz (by walk_at "b") rfl (λc A o s H E hr=>⟨_,_,(Xag (Xa4 (i:=3) Xcz.nd rfl (Or.inl rfl) (Xbm Xac))
   (Xag (Xfz PassesOwn.never rfl (Xh0 (by rfl) (by exact B.range) (Xaa (Xaw Xkk (pv 0) (pv 2)) (Xaa (pv 1) (Xaa (Xaw Xkk Xal (pv 2)) Xac)))) (Xbc (i:=4) Xcz.nd rfl (Or.inl rfl)) (Xag (Xa4 (i:=5) Xcz.nd rfl (Or.inl rfl) (Xa6 Xia (hr.mono (by decide)) (by rfl) (Xaa (pv 4) (Xaa (pv 1) (Xaa (pv 2) Xac)))))
   (Xaj (Xb0 (Xbb Yht (pv 5) Xzl (Xbf _)) (Xaj (Xbs (Xdb plainAttrs_list PySem.F.slot_list_append PySem.F.type_list_append Xcb (pv 3) (Xaa (Xbw (Xaa (pv 4) (Xaa (Xba Xbh (pv 5) Xal (λ_ _=>rfl)) (Xaa (Xba Xbh (pv 5) Xal (λ_ _=>rfl)) Xac)))) Xac)))) Xa8))))
   (Xaj (Xaz (pv 3))))),
  (Xao (Xa5 (Xb3 Xbn))
   (Xao (Xfy (Xnd (Xaf (Xap (Xaq Xc5 Xad Xad)) (Xaf Xad (Xaf (Xap (Xaq Xc5 (Xap Xah) Xad)) Xan)))) Xbe (Xao (Xa5 (Xa0 (Xby (Xa1 (Xab Xai (Xab Xai (Xab Xai Xam)))))))
   (Xcd (Xa9 (Xaq Yh1 Xad (Xap Xy5))) (Xvb (Xa0 (Xcp (Xab Xai (Xab (Xbo Xbg Xai Xah) (Xab (Xbo Xbg Xai Xah) Xam)))))) Xa7)))
   Xna)),?_⟩)
 intro ds Pr h
 unfold Xcx at h
 split at h
 .rename_i h' n st
  obtain⟨⟨hh,s0,s1,n0,n1⟩,k⟩:=h
  fin2
  refine⟨.inr ⟨by lia,by lia⟩,⟨by rcases hh with rfl |rfl<;>lia,by rcases hh with rfl |rfl<;>lia,by lia,by lia,by lia,by lia⟩,?_⟩
  rw[Yha s0]
  refine⟨λi δ=>i<=Yft h' n st/\∃o1 o2,δ=[vI h',vI n,vI st,vL ((Yer h' n st i).map λt=>.fz (plD n st t)),o1,o2],⟨zero_le _,_,_,by unfold Yer;split<;>rfl⟩,?_,?_⟩
  .rintro i d δ hd ⟨hi',o1,o2,rfl⟩
   obtain⟨hi,rfl⟩:=Xgr hd
   have hlt:=(Xv8 (h:=h') (n:=n) s0 i).mp hi
   have hcnt:Yft h' n st<=100001:=by
    rcases lt_or_ge 100001 (Yft h' n st) with z |z
    .have:=(Xv8 (h:=h') (n:=n) s0 100001).mp z
     have h0:0<=h'*st:=by rcases hh with rfl |rfl<;>lia
     lia
    .exact z
   fin2
   unfold Xeb
   generalize ht:h'*st+(i:Int)*(2*st)=t at *
   try dsimp only
   split
   .rename_i hn
    fin2
    have hns:n<=st:=by
     rcases Int.lt_or_le st n with z |z
     .exact absurd hn (Xz6 s0 hh ((Xhz s0).mpr ⟨by lia,hlt,i,ht.symm⟩)).2.2.2
     .exact z
    have e:∀j,Yer h' n st j=[]:=λj=>if_pos hns
    rw[e,e]
    exact⟨hi,_,_,rfl⟩
   .rename_i hn
    fin2
    have hns:¬ n<=st:=λz=>hn (by
     have h0:0<=(i:Int)*(2*st):=mul_nonneg (by lia) (by lia)
     have h1:0<=h'*st:=by rcases hh with rfl |rfl<;>lia
     constructor<;>omega)
    have el:(Yer h' n st i).length=i:=by unfold Yer;rw[if_neg hns];simp
    have e:Yer h' n st (i+1)=Yer h' n st i++[t]:=by
     unfold Yer
     rw[if_neg hns,if_neg hns,range_succ,map_append,<- ht]
     rfl
    rw[e,map_append]
    exact⟨by lia,hi,_,_,rfl⟩
  .rintro δ ⟨_,o1,o2,rfl⟩
   fin2
   rw[Xew]
   exact k
 .exact h.elim
def lfD (f:Lf):D:=.tup [.int f.h,.int f.l,.int f.r,.int f.a,.int f.s]
abbrev Xyu:Stmt:=top 60
theorem Ygj:FnScope ["lift","left","right"] ["lift","left","right"] (Xae Xyu):=by walk_at "S"
def Xyo:DSp:=λds P=>∃(f:Lf) (x y:Int),ds=[lfD f,.int x,.int y]/\f.Ok/\P (.fz (.int (Xxn f x y)))
theorem Yhz (Df:DefAt K mg "gain" Xyu f fd)(B:BltV mg)(KV:KitV K)(Xuk:∃t,mg "SHIFT"=some (.int 4 t))(Yiz:∃t,mg "ADD"=some (.int 3 t))(Yax:∃t,mg "LEFT"=some (.int 1 t))(Xul:∃t,mg "RIGHT"=some (.int 2 t)):
  Cal P w K mg base "gain" 1 ["lift","left","right"] (spV K 3 Xyo):=by
 refine CalV.of Df Ygj (by walk_at "b") rfl (λc A o s H E hr=>⟨_,_,(Xaj (Xaz (Xaw Xzs (Xaw Xdj (Xaw Xdj (Xaw Xkk (Xba Xbh (pv 0) (Xau (by rfl) Yax) (λ_ _=>rfl)) (pv 1)) (Xaw Xkk (Xba Xbh (pv 0) (Xau (by rfl) Xul) (λ_ _=>rfl)) (pv 2))) (Xba Xbh (pv 0) (Xau (by rfl) Yiz) (λ_ _=>rfl))) (Xba Xbh (pv 0) (Xau (by rfl) Xuk) (λ_ _=>rfl))))),
  (Xa2 (Xa0 (Xaq Xc5 (Xap (Xaq Xcl (Xap (Xaq Xcl (Xap (Xaq Xc5 (Xca (OpF.b Xbg) Xad (Xap Xah)) Xad)) (Xap (Xaq Xc5 (Xca (OpF.b Xbg) Xad (Xap Xah)) Xad)))) (Xca (OpF.b Xbg) Xad (Xap Xah)))) (Xca (OpF.b Xbg) Xad (Xap Xah))))),?_⟩)
 rintro ds Pr ⟨f,x,y,rfl,ok,k⟩
 have h1:=ok.l
 have h2:=ok.r
 have h3:=ok.s
 simp only[lfD]
 fin2
 exact⟨Yo4 (by lia) (by lia),Yo4 (by lia) (by lia),h3.1,k⟩
def Xog (fs:List Lf):D:=.tup (fs.map lfD)
def iL (xs:List Int):D:=.lst (xs.map D.int)
def iO (xs:List Int):OV:=.nl (xs.map λx=>.fz (.int x))
theorem Xw1 {st:Int}{xs:List Int}{fs:List Lf}{i:Nat}{f:Lf}(h:fs[i]?=some f):Xb8 (fs.take (i+1)) st xs=Xsx 1 f st (Xb8 (fs.take i) st xs):=by
 obtain⟨hi,e⟩:=List.getElem?_eq_some_iff.mp h
 rw[List.take_succ_eq_append_getElem hi,e]
 unfold Xb8
 rw[foldl_append]
 rfl
abbrev Xp4:Stmt:=top 61
theorem Xfw:FnScope ["row","ladder","stride","things","lift","at","left","right"] ["row","ladder","stride"] (Xae Xp4):=by walk_at "S"
def Xep:DSp:=λds P=>∃(xs:List Int) (fs:List Lf) (st:Int),ds=[iL xs,Xog fs,.int st]/\((∀f∈fs,f.Ok)/\0<st/\st<=64/\xs.length<=100000)/\P (iO (Xb8 fs st xs))
theorem Xzw (Df:DefAt K mg "raised" Xp4 f fd)(B:BltV mg)(KV:KitV K)(Yaz:∃t,mg "HALF"=some (.int 0 t))(Xe2:Cal P w K mg base "lifted_places" 2 ["half","many","stride"] (spV K 3 Xcx))(Ybu:Cal P w K mg base "gain" 1 ["lift","left","right"] (spV K 3 Xyo)):
  Cal P w K mg base "raised" 3 ["row","ladder","stride"] (spV K 3 Xep):=by
 refine CalV.of Df Xfw (by walk_at "b") rfl (λc A o s H E hr=>⟨_,_,(Xag (Xa4 (i:=3) Xfw.nd rfl (Or.inl rfl) (Xdg Xpt (by rfl) B.list PyProof.Rows.boot_list (Xaa (pv 0) Xac)))
   (Xag (Xfz PassesOwn.never rfl (Xr8 (pv 1)) (Xbc (i:=4) Xfw.nd rfl (Or.inl rfl)) (Xaj (Xfz PassesOwn.never rfl (Xfj (Xa6 Xe2 (hr.mono (by decide)) (by rfl) (Xaa (Xba Xbh (pv 4) (Xau (by rfl) Yaz) (λ_ _=>rfl)) (Xaa (Xar Xax (by rfl) B.len boot_len (Xaa (pv 0) Xac)) (Xaa (pv 2) Xac))))) (Xvn (n:=3) rfl (Xeg (Xbc (i:=5) Xfw.nd rfl (Or.inl rfl)) (Xeg (Xbc (i:=6) Xfw.nd rfl (Or.inl rfl)) (Xeg (Xbc (i:=7) Xfw.nd rfl (Or.inl rfl)) Xqf)))) (Xaj (Yhk (pv 3) (pv 5) Yau (Xa6 Ybu (hr.mono (by decide)) (by rfl) (Xaa (pv 4) (Xaa (Xba Xbk (pv 3) (pv 6) (λ_ _=>rfl)) (Xaa (Xba Xbk (pv 3) (pv 7) (λ_ _=>rfl)) Xac)))) Yfe Xec)))))
   (Xaj (Xaz (pv 3))))),
  (Xao (Xa5 (Yko Yjb (Xab Xai Xam)))
   (Xao (Xfy (Xrx Xai) Xbe (Xfy (Xgq (Xby (Xa1 (Xab (Xbo Xbg Xai Xah) (Xab (Xbl Xco (Xaf Xad Xan)) (Xab Xai Xam)))))) (Xvd (Xef Xbe (Xef Xbe (Xef Xbe Xp8)))) (Ygp Xad (Xap (Xby (Xil (Xaf Xad (Xaf (Xca (OpF.b Xb4) Xad Xad) (Xaf (Xca (OpF.b Xb4) Xad Xad) Xan)))))))))
   Xna)),?_⟩)
 rintro ds Pr ⟨xs,fs,st,rfl,⟨oks,s0,s1,hx⟩,k⟩
 simp only[iL,Xog]
 fin2
 refine⟨λi δ=>∃o1 o2 o3 o4,δ=[vD (iL xs),vD (Xog fs),vI st,some (.own (iO (Xb8 (fs.take i) st xs))),o1,o2,o3,o4],⟨none,none,none,none,by simp[iL,Xog,iO,Xb8]⟩,?_,?_⟩
 .rintro i d δ hd ⟨o1,o2,o3,o4,rfl⟩
  obtain⟨f,hf,rfl⟩:=Ydg hd
  have okf:=oks f (mem_of_getElem? hf)
  have hlen:(Xb8 (fs.take i) st xs).length=xs.length:=Xr2 s0 xs λg hg=>(oks g (mem_of_mem_take hg)).h
  dsimp only
  rw[Xw1 hf]
  generalize hc:Xb8 (fs.take i) st xs=cur at hlen
  simp only[iL,Xog,iO,lfD]
  fin2
  simp only[Xcx]
  refine⟨⟨okf.h,s0,s1,by lia,by lia⟩,?_⟩
  fin2
  simp only[map_map,Function.comp_def,OV.val]
  rw[<- hlen]
  refine⟨λj δ=>∃o2 o3 o4,δ=[vD (iL xs),vD (Xog fs),vI st,some (.own (iO (((Xfq f.h cur.length st).take j).foldl (Xrb 1 f st) cur))),vD (lfD f),o2,o3,o4],⟨_,_,_,rfl⟩,?_,?_⟩
  .rintro j e δ he ⟨p2,p3,p4,rfl⟩
   obtain⟨t,ht,rfl⟩:=Ydg he
   have htm:t∈Xfq f.h cur.length st:=mem_of_getElem? ht
   obtain⟨hjt,htt⟩:=List.getElem?_eq_some_iff.mp ht
   obtain⟨b0,b1,b2,_⟩:=Xz6 s0 okf.h htm
   have hla:=(Yac (sg:=1) (f:=f) (st:=st) (xs:=cur) s0 okf.h j).1
   have etake:(Xfq f.h cur.length st).take (j+1)=(Xfq f.h cur.length st).take j++[t]:=by
    rw[List.take_succ_eq_append_getElem hjt,htt]
   dsimp only
   rw[etake,foldl_append]
   generalize hw:((Xfq f.h cur.length st).take j).foldl (Xrb 1 f st) cur=wcur at hla
   simp only[iL,Xog,iO,plD,lfD]
   fin2
   refine⟨b0.1,_,Yix b0.1 (by lia),_,Xha b1.1 (by lia),_,Xha b2.1 (by lia),f,_,_,rfl,okf,?_⟩
   fin2
   simp only[foldl_cons,List.foldl_nil,Xrb,Xlh,hla,one_mul]
   exact⟨_,_,_,rfl⟩
  .rintro δ ⟨p2,p3,p4,rfl⟩
   rw[length_map,take_length]
   exact⟨_,_,_,_,rfl⟩
 .rintro δ ⟨o1,o2,o3,o4,rfl⟩
  fin2
  rw[take_length]
  exact k
abbrev Xxv:DTb:=[("raised",Xep)]
section SH
variable {α β:Type}
def tab (n:Nat)(f:Nat->β):List β:=(List.range n).map f
theorem Xbr {f:Nat->β}:(tab n f).length=n:=by simp[tab]
theorem Xmx {f:Nat->β}(h:i<n):(tab n f)[i]?=some (f i):=by simp[tab,h]
theorem Xpw {f:Nat->β}(h:i<n):(tab n f).getD i d=f i:=by simp[tab,h]
theorem Xjc {f g:Nat->β}(h:∀i,i<n->f i=g i):tab n f=tab n g:=map_congr_left λi hi=>h i (mem_range.mp hi)
theorem Xhh {γ:Type}{f:Nat->β}{g:β->γ}:(tab n f).map g=tab n λi=>g (f i):=by simp[tab]
theorem Yca (z:α)(xs:List α):tab xs.length (λi=>xs.getD i z)=xs:=by
 refine Ybb z (by rw[Xbr]) λp hp=>?_
 rw[Xbr]at hp
 rw[Xpw hp]
theorem Xx9 (z:α)(h:xs.length=n):tab n (λi=>xs.getD i z)=xs:=by subst h;exact Yca z xs
theorem Xtp {f:Nat->β}:(tab n f).set i v=tab n λj=>if j=i then v else f j:=by
 refine ext_getElem? λj=>?_
 rw[getElem?_set,Xbr]
 by_cases hj:j<n
 .rw [Xmx hj,Xmx hj]
  by_cases e:i=j
  .subst e;simp[hj]
  .rw [if_neg e,if_neg λz=>e z.symm]
 .have e1:(tab n f)[j]?=none:=getElem?_eq_none (by rw[Xbr];lia)
  have e2:(tab n λj=>if j=i then v else f j)[j]?=none:=getElem?_eq_none (by rw[Xbr];lia)
  rw[e1,e2]
  split
  .rw [if_neg (by lia)]
  .rfl
theorem Xle {n:Nat}{f:Nat->D}{i:Int}(h0:0<=i)(h:i<n):atI (tab n f) i=some (f i.toNat):=by
 have e:=Xc7 (xs:=tab n f) (Xmx (show i.toNat<n by lia))
 rwa[show ((i.toNat:Nat):Int)=i by lia]at e
def Yjp (z:α)(op:List α->List α)(w st:Nat)(e:Nat->Nat->α):Nat->Nat->α:=λi j=>if i%st=0 then (op (tab w (e i))).getD j z else e i j
def Yjt (z:α)(op:List α->List α)(h st:Nat)(e:Nat->Nat->α):Nat->Nat->α:=λi j=>if j%st=0 then (op (tab h λi=>e i j)).getD i z else e i j
def eqS (h w:Nat)(e e':Nat->Nat->α):Prop:=∀i j,i<h->j<w->e i j=e' i j
theorem eqS.symm {h w:Nat}{a b:Nat->Nat->α}(x:eqS h w a b):eqS h w b a:=λi j hi hj=>(x i j hi hj).symm
def Ydk (z:α)(op:Nat->List α->List α)(h w:Nat):Nat->(Nat->Nat->α)->Nat->Nat->α
 | 0,e=>e
 |n+1,e=>Yjt z (op n) h (2^n) (Yjp z (op n) w (2^n) (Ydk z op h w n e))
end SH
def shT {α:Type}(g:α->D)(h w:Nat)(e:Nat->Nat->α):List OV:=tab h λi=>.nl (tab w λj=>.fz (g (e i j)))
def shV {α:Type}(g:α->D)(h w:Nat)(e:Nat->Nat->α):List D:=tab h λi=>.lst (tab w λj=>g (e i j))
theorem Xm2 {α:Type}{g:α->D}{w:Nat}{e:Nat->Nat->α}:(shT g h w e).map OV.val=shV g h w e:=by
 unfold shT shV
 rw[Xhh]
 simp only[OV.val,OV.vals_eq,Xhh]
theorem Xts {α:Type}{g:α->D}{w:Nat}{e e':Nat->Nat->α}(q:eqS h w e e'):shT g h w e=shT g h w e':=by
 exact Xjc λi hi=>by rw[Xjc λj hj=>by rw[q i j hi hj]]
structure OpOk (α:Type) (z:α) (g:α->D) (op:List α->List α) (n:Nat) (st:Nat) (lad:D) (sp:DSp):Prop where
 run:∀r:List α,r.length=n->∀Q:OV->Prop,Q (.nl ((op r).map λx=>.fz (g x)))->sp [.lst (r.map g),lad,.int st] Q
 len:∀r:List α,r.length=n->(op r).length=n
 off:∀(r:List α) (i:Nat),r.length=n->i<n->i%st≠0->(op r).getD i z=r.getD i z
 lf:∀x,(g x).lf=true
abbrev Xgl:Stmt:=top 66
theorem Xi5:FnScope ["sheet","doing","ladder","stride","i"] ["sheet","doing","ladder","stride"] (Xae Xgl):=by walk_at "S"
def Xi0:DIO:=λts ds P=>∃(α:Type) (z:α) (g:α->D) (op:List α->List α) (x:Str) (sp:DSp) (lad:D) (h w st:Nat) (e:Nat->Nat->α),ts=shT g h w e/\ds=[.fn x,lad,.int st]/\(x,sp)∈Xxv/\OpOk α z g op w st lad sp/\0<st/\st<=64/\h<=1000/\P (shT g h w (Yjp z op w st e))
theorem Yln {α:Type}{g:α->D}(hg:∀x,(g x).lf=true)(xs:List α):OV.lf (.nl (xs.map λx=>.fz (g x)))=true:=by
 simp[OV.lf,OV.lfs_eq,hg]
theorem Xmz {h st:Nat}(s0:0<st){n:Nat}(hn:n<Xhx 0 h st):n*st<h:=by
 have:=(Xqb (by lia) n).mp hn
 rw[zero_add]at this
 exact_mod_cast this
theorem Xpy {h st i:Nat}(s0:0<st)(hi:i<h)(hm:i%st=0):i<Xhx 0 h st*st:=by
 rcases lt_or_ge i (Xhx 0 h st*st) with q |q
 .exact q
 .exfalso
  have h1:Xhx 0 h st<=i / st:=by
   rw[Nat.le_div_iff_mul_le s0];exact q
  have h2:¬ (Xhx 0 h st<Xhx 0 h st):=lt_irrefl _
  apply h2
  rw[Xqb (by lia)]
  have h4:Xhx 0 h st*st<h:=by lia
  have:((Xhx 0 h st*st:Nat):Int)<h:=by exact_mod_cast h4
  rw[zero_add]
  exact_mod_cast this
theorem Yhb {h st:Nat}(s0:0<st):Xhx 0 h st<=h:=by
 rcases lt_or_ge h (Xhx 0 h st) with q |q
 .have:=Xmz s0 q
  have h2:h*1<=h*st:=Nat.mul_le_mul_left _ s0
  lia
 .exact q
theorem Xoz (Df:DefAt K mg "change_rows" Xgl f fd)(B:BltV mg)(KV:KitV K)(Xc2:Xq8 K mg "raised")(Xip:Cal P w K mg base "raised" 3 ["row","ladder","stride"] (spV K 3 Xep)):
  Cal P w K mg base "change_rows" 4 ["sheet","doing","ladder","stride"] (Ygc K 4 Xi0):=by
 refine CalIO.of Df Xi5 (by walk_at "b") rfl (λc A o s H E hr=>⟨_,_,(Xaj (Xfz PassesOwn.never rfl (Xh0 (by rfl) (by exact B.range) (Xaa Xal (Xaa (Xar Xax (by rfl) B.len boot_len (Xaa (pv 0) Xac)) (Xaa (pv 3) Xac)))) (Xbc (i:=4) Xi5.nd rfl (Or.inl rfl)) (Xaj (Xke (Xzn (pv 1) (Xx8 (K:=K) (n:=3) (tb:=Xxv) (k:=3) (by simp only[Xxv,forall_mem_cons];exact⟨⟨_,Xip.mono (by decide)⟩,λ_ h=>by cases h⟩)) (hr.mono (by decide)) (Xaa (Xba Xbk (pv 0) (pv 4) (λ_ _=>rfl)) (Xaa (pv 2) (Xaa (pv 3) Xac)))) (Xls (pv 0) (pv 4) Xec))))),
  (Xfy (Xnd (Xaf (Xap Xah) (Xaf (Xap (Xbl Xco (Xaf Xad Xan))) (Xaf Xad Xan)))) Xbe (Yei (i:=0) Yab (Xnb (Xy2 (tb:=Xxv) (by simp only[Xxv,forall_mem_cons];exact⟨Xc2,λ_ h=>by cases h⟩) (Xaf (Xca (OpF.b Xb4) Xad Xad) (Xaf Xad (Xaf Xad Xan)))) Xad))),?_⟩)
 rintro a ts ds Pr ⟨α,z,g,op,x,sp,lad,h,w,st,e,rfl,rfl,hm,ok,s0,s1,hh,k⟩
 fin2
 refine⟨⟨by lia,by rw[shT,Xbr];lia,by lia,by lia⟩,?_⟩
 rw[show ((shT g h w e).length:Int)=(h:Int) by rw[shT,Xbr]]
 refine⟨λn δ=>n<=Xhx 0 h st/\∃o,δ=[some (.own (.rt a (shT g h w λi j=>if i%st=0/\i<n*st then (op (tab w (e i))).getD j z else e i j))),vD (.fn x),vD lad,vI st,o],⟨zero_le _,none,?_⟩,?_,?_⟩
 .simp only[zero_mul,Nat.not_lt_zero,and_false,if_false]
 .rintro n d δ hd ⟨hn,o,rfl⟩
  obtain⟨hi,rfl⟩:=Xgr hd
  have hlt:=Xmz s0 hi
  have hnat:(0+(n:Int)*(st:Int))=((n*st:Nat):Int):=by rw[zero_add];exact_mod_cast rfl
  rw[hnat]
  fin2
  refine⟨sp,hm,?_⟩
  rw[Xm2]
  refine⟨_,Xle (by lia) (by exact_mod_cast hlt),?_⟩
  rw[show ((n*st:Nat):Int).toNat=n*st by lia]
  have er:(D.lst (tab w λj=>g (if (n*st)%st=0/\n*st<n*st then (op (tab w (e (n*st)))).getD j z else e (n*st) j))) = .lst ((tab w (e (n*st))).map g):=by
   rw[Xhh]
   simp only[lt_irrefl,and_false,if_false]
  rw[er]
  try fin2
  refine ok.run _ Xbr _ ?_
  refine⟨Yln ok.lf _,n*st,?_,?_⟩
  .rw [shT,Xbr]
   have:=Yam (n:=h) (i:=((n*st:Nat):Int)) (by lia) (by exact_mod_cast hlt)
   rwa[show ((n*st:Nat):Int).toNat=n*st by lia]at this
  .try fin2
   refine⟨hi,some (.own (.fz (.int ((n*st:Nat):Int)))),?_⟩
   have es : (shT g h w λi j=>if i%st=0/\i<n*st then (op (tab w (e i))).getD j z else e i j).set (n*st) (.nl ((op (tab w (e (n*st)))).map λx=>.fz (g x)))=shT g h w λi j=>if i%st=0/\i<(n+1)*st then (op (tab w (e i))).getD j z else e i j:=by
    unfold shT
    rw[Xtp]
    refine Xjc λi hi'=>?_
    by_cases q:i=n*st
    .subst q
     rw[if_pos rfl]
     have e1:∀j,(if (n*st)%st=0/\n*st<(n+1)*st then (op (tab w (e (n*st)))).getD j z else e (n*st) j)=(op (tab w (e (n*st)))).getD j z:=λj=>if_pos ⟨mul_mod_left _ _,by rw[Nat.add_mul];lia⟩
     simp only[e1]
     congr 1
     rw[<- Xhh (f:=λj=>(op (tab w (e (n*st)))).getD j z) (g:=λx=>OV.fz (g x)),Xx9 z (ok.len _ Xbr)]
    .rw [if_neg q]
     congr 1
     refine Xjc λj _=>?_
     have:(i%st=0/\i<n*st)↔(i%st=0/\i<(n+1)*st):=by
      constructor
      .rintro ⟨q1,q2⟩
       exact⟨q1,by rw[Nat.add_mul];lia⟩
      .rintro ⟨q1,q2⟩
       refine⟨q1,?_⟩
       have e2:i=i / st*st:=by
        have:=Nat.div_add_mod i st
        rw[q1,Nat.add_zero,Nat.mul_comm]at this
        exact this.symm
       have e3:i / st<n+1:=by rw[Nat.div_lt_iff_lt_mul s0];exact q2
       rcases lt_or_ge (i / st) n with y |y
       .have:(i / st+1)*st<=n*st:=Nat.mul_le_mul_right _ y
        rw[Nat.add_mul]at this
        lia
       .have:i / st=n:=by lia
        rw[this]at e2
        exact absurd e2 q
     dsimp only
     by_cases y:i%st=0/\i<n*st
     .rw [if_pos y,if_pos (this.mp y)]
     .rw [if_neg y,if_neg λy'=>y (this.mpr y')]
   rw[es]
 .rintro δ ⟨_,o,rfl⟩
  rw[Xew]
  refine⟨_,rfl,?_⟩
  rw[Xts (e':=Yjp z op w st e)]
  .exact k
  .intro i j hi hj
   show (if i%st=0/\i<Xhx 0 h st*st then _ else _)=if i%st=0 then _ else _
   by_cases q:i%st=0
   .rw [if_pos ⟨q,Xpy s0 hi q⟩,if_pos q]
   .rw [if_neg λy=>q y.1,if_neg q]
abbrev Xc1:Stmt:=top 67
theorem Xcq:FnScope ["sheet","doing","ladder","stride","j","column","i"] ["sheet","doing","ladder","stride"] (Xae Xc1):=by walk_at "S"
def Xfv:DIO:=λts ds P=>∃(α:Type) (z:α) (g:α->D) (op:List α->List α) (x:Str) (sp:DSp) (lad:D) (h w st:Nat) (e:Nat->Nat->α),ts=shT g h w e/\ds=[.fn x,lad,.int st]/\(x,sp)∈Xxv/\OpOk α z g op h st lad sp/\0<st/\st<=64/\0<h/\h<=1000/\w<=1000/\P (shT g h w (Yjt z op h st e))
theorem Xno {st:Nat}(s0:0<st)(q1:i%st=0)(hne:i≠n*st):i<n*st↔i<(n+1)*st:=by
 constructor
 .intro y
  rw[Nat.add_mul];lia
 .intro q2
  have e2:i=i / st*st:=by
   have:=Nat.div_add_mod i st
   rw[q1,Nat.add_zero,Nat.mul_comm]at this
   exact this.symm
  have e3:i / st<n+1:=by rw[Nat.div_lt_iff_lt_mul s0];exact q2
  rcases lt_or_ge (i / st) n with y |y
  .have:(i / st+1)*st<=n*st:=Nat.mul_le_mul_right _ y
   rw[Nat.add_mul]at this
   lia
  .have:i / st=n:=by lia
   rw[this]at e2
   exact absurd e2 hne
theorem Xk5 (Df:DefAt K mg "change_columns" Xc1 f fd)(B:BltV mg)(KV:KitV K)(Xc2:Xq8 K mg "raised")(Xip:Cal P w K mg base "raised" 3 ["row","ladder","stride"] (spV K 3 Xep)):
  Cal P w K mg base "change_columns" 4 ["sheet","doing","ladder","stride"] (Ygc K 4 Xfv):=by
 refine CalIO.of Df Xcq (by walk_at "b") rfl (λc A o s H E hr=>⟨_,_,(Xaj (Xfz PassesOwn.never rfl (Xh0 (by rfl) (by exact B.range) (Xaa Xal (Xaa (Xar Xax (by rfl) B.len boot_len (Xaa (Xba Xbk (pv 0) Xal (λ_ _=>rfl)) Xac)) (Xaa (pv 3) Xac)))) (Xbc (i:=4) Xcq.nd rfl (Or.inr rfl)) (Xag (Xa4 (i:=5) Xcq.nd rfl (Or.inl rfl) (Xzn (pv 1) (Xx8 (K:=K) (n:=3) (tb:=Xxv) (k:=3) (by simp only[Xxv,forall_mem_cons];exact⟨⟨_,Xip.mono (by decide)⟩,λ_ h=>by cases h⟩)) (hr.mono (by decide)) (Xaa (Xd6 rfl (Xfj (pv 0)) (show BlkScope (Xae Xc1) _ from⟨rfl,by decide +kernel,by decide +kernel,by decide +kernel⟩) (N:=["row","j"]) (ix:=[none,some 4]) (show Xb2 _ _ _ _ from⟨⟨rfl,rfl,.inl rfl⟩,trivial⟩) (λ_ _ _=>(Xbc (i:=0) (show List.Nodup (["row","j"]:List Str) by decide +kernel) rfl (Or.inl rfl))) (λ_ _ _=>(Xba Xbk (pv 0) (pv 1) (λ_ _=>rfl)))) (Xaa (pv 2) (Xaa (pv 3) Xac)))))
   (Xaj (Xfz PassesOwn.never rfl (Xh0 (by rfl) (by exact B.range) (Xaa Xal (Xaa (Xar Xax (by rfl) B.len boot_len (Xaa (pv 0) Xac)) (Xaa (pv 3) Xac)))) (Xbc (i:=6) Xcq.nd rfl (Or.inl rfl)) (Xaj (Xke (Xba Xbk (pv 5) (pv 6) (λ_ _=>rfl)) (Xls (Xba Xbk (pv 0) (pv 6) (λ_ _=>rfl)) (pv 4) Xec)))))))),
  (Xfy (Xnd (Xaf (Xap Xah) (Xaf (Xap (Xbl Xco (Xaf (Xca (OpF.b Xb4) Xad (Xap Xah)) Xan))) (Xaf Xad Xan)))) Xbe (Xao (Xa5 (Xa0 (Xby (Ycm (tb:=Xxv) (by simp only[Xxv,forall_mem_cons];exact⟨Xc2,λ_ h=>by cases h⟩) (Xab (Xby (Ycl Xad (Xa0 (Yco (Xca (OpF.b Xb4) Xad Xad))))) (Xab Xai (Xab Xai Xam)))))))
   (Xfy (Xnd (Xaf (Xap Xah) (Xaf (Xap (Xbl Xco (Xaf Xad Xan))) (Xaf Xad Xan)))) Xbe (Yei (i:=0) Yab (Ygm (Xbo Xb4 Xai Xai) Xad Xad))))),?_⟩)
 rintro a ts ds Pr ⟨α,z,g,op,x,sp,lad,h,w,st,e,rfl,rfl,hm,ok,s0,s1,h0,hh,hw,k⟩
 fin2
 rw[Xm2]
 refine⟨_,Xle (by lia) (by lia),?_⟩
 fin2
 rw[Xbr]
 refine⟨⟨by lia,by lia,by lia,by lia⟩,?_⟩
 refine⟨λn δ=>n<=Xhx 0 w st/\∃o1 o2 o3,δ=[some (.own (.rt a (shT g h w λi j=>if j%st=0/\j<n*st then (op (tab h λi=>e i j)).getD i z else e i j))),vD (.fn x),vD lad,vI st,o1,o2,o3],⟨zero_le _,none,none,none,?_⟩,?_,?_⟩
 .simp only[zero_mul,Nat.not_lt_zero,and_false,if_false]
 .rintro n d δ hd ⟨hn,o1,o2,o3,rfl⟩
  obtain⟨hi,rfl⟩:=Xgr hd
  have hlt:=Xmz s0 hi
  have hnat:(0+(n:Int)*(st:Int))=((n*st:Nat):Int):=by rw[zero_add];exact_mod_cast rfl
  rw[hnat]
  generalize hj:n*st=j at hlt
  fin2
  refine⟨sp,hm,?_⟩
  rw[Xm2]
  refine Xmu.mapB (List.range h) _ (λi=>.fz (g (e i j))) (by rw[length_range];lia) (λi hi' Q q=>?_) ?_
  .have hi'':=mem_range.mp hi'
   fin2
   refine⟨_,Xle (by lia) (by exact_mod_cast hlt),?_⟩
   rw[show ((j:Nat):Int).toNat=j by lia,if_neg λy=>by lia]
   exact⟨ok.lf _,q⟩
  .have e1 : (List.range h).map (λi=>OV.fz (g (e i j)))=(tab h λi=>e i j).map λx=>OV.fz (g x):=by rw[Xhh];rfl
   rw[e1]
   fin2
   simp only[Xx4]
   refine ok.run _ Xbr _ ?_
   generalize hcc:tab h (λi=>e i j)=c
   have hcl:c.length=h:=by rw[<- hcc];exact Xbr
   have hol:=ok.len c hcl
   fin2
   simp only[Xx4]
   refine⟨⟨by lia,by rw[shT,Xbr];lia,by lia,by lia⟩,?_⟩
   rw[show ((shT g h w λi j'=>if j'%st=0/\j'<j then (op (tab h λi=>e i j')).getD i z else e i j').length:Int)=(h:Int) by rw[shT,Xbr]]
   refine⟨λm δ=>∃o3,δ=[some (.own (.rt a (shT g h w λi j'=>if j'=j/\i%st=0/\i<m*st then (op c).getD i z else if j'%st=0/\j'<j then (op (tab h λi=>e i j')).getD i z else e i j'))),vD (.fn x),vD lad,vI st,vI j,vD (.lst ((op c).map g)),o3],⟨o3,?_⟩,?_,?_⟩
   .simp only[zero_mul,Nat.not_lt_zero,and_false,if_false]
   .rintro m d δ hd' ⟨p3,rfl⟩
    obtain⟨hm',rfl⟩:=Xgr hd'
    have hlt':=Xmz s0 hm'
    have hnat':(0+(m:Int)*(st:Int))=((m*st:Nat):Int):=by rw[zero_add];exact_mod_cast rfl
    rw[hnat']
    generalize hi0:m*st=i at hlt'
    fin2
    refine⟨_,Yjf z (by lia) (by rw[hol];exact_mod_cast hlt'),?_⟩
    rw[show ((i:Nat):Int).toNat=i by lia]
    refine⟨i,_,?_,Xmx hlt',j,?_,?_⟩
    .rw [shT,Xbr]
     have:=Yam (n:=h) (i:=((i:Nat):Int)) (by lia) (by exact_mod_cast hlt')
     rwa[show ((i:Nat):Int).toNat=i by lia]at this
    .rw [Xbr]
     have:=Yam (n:=w) (i:=((j:Nat):Int)) (by lia) (by exact_mod_cast hlt)
     rwa[show ((j:Nat):Int).toNat=j by lia]at this
    .try fin2
     refine⟨vI ((i:Nat):Int),?_⟩
     have es:(shT g h w λi j'=>if j'=j/\i%st=0/\i<m*st then (op c).getD i z else if j'%st=0/\j'<j then (op (tab h λi=>e i j')).getD i z else e i j').set i (.nl ((tab w λj'=>OV.fz (g (if j'=j/\i%st=0/\i<m*st then (op c).getD i z else if j'%st=0/\j'<j then (op (tab h λi=>e i j')).getD i z else e i j'))).set j (.fz (g ((op c).getD i z))))) =
       shT g h w λi j'=>if j'=j/\i%st=0/\i<(m+1)*st then (op c).getD i z else if j'%st=0/\j'<j then (op (tab h λi=>e i j')).getD i z else e i j':=by
      unfold shT
      rw[Xtp]
      refine Xjc λi' hi'=>?_
      by_cases q:i'=i
      .subst q
       rw[if_pos rfl,Xtp]
       congr 1
       refine Xjc λj' hj'=>?_
       dsimp only
       by_cases y:j'=j
       .subst y
        rw[if_pos rfl,if_pos ⟨rfl,by rw[<- hi0];exact mul_mod_left _ _,by rw[<- hi0,Nat.add_mul];lia⟩]
       .simp only[y,false_and,if_false]
      .rw [if_neg q]
       congr 1
       refine Xjc λj' hj'=>?_
       dsimp only
       by_cases y:j'=j/\i'%st=0
       .have hne:i'≠m*st:=by rw[hi0];exact q
        have:=Xno (n:=m) s0 y.2 hne
        by_cases y2:i'<m*st
        .rw [if_pos ⟨y.1,y.2,y2⟩,if_pos ⟨y.1,y.2,this.mp y2⟩]
        .rw [if_neg (show ¬ (j'=j/\i'%st=0/\i'<m*st) from λy'=>y2 y'.2.2),if_neg (show ¬ (j'=j/\i'%st=0/\i'<(m+1)*st) from λy'=>y2 (this.mpr y'.2.2))]
       .rw [if_neg (show ¬ (j'=j/\i'%st=0/\i'<m*st) from λy'=>y ⟨y'.1,y'.2.1⟩),if_neg (show ¬ (j'=j/\i'%st=0/\i'<(m+1)*st) from λy'=>y ⟨y'.1,y'.2.1⟩)]
     simp only[hi0]at es
     rw[es]
   .rintro δ ⟨p3,rfl⟩
    rw[Xew]
    refine⟨hi,vI j,vD (.lst ((op c).map g)),p3,?_⟩
    rw[Xts (e':=λi j=>if j%st=0/\j<(n+1)*st then (op (tab h λi=>e i j)).getD i z else e i j)]
    intro i j' hi' hj'
    dsimp only
    by_cases y:j'=j
    .subst y
     rw[hcc,if_pos (show j'%st=0/\j'<(n+1)*st from⟨by rw[<- hj];exact mul_mod_left _ _,by rw[<- hj,Nat.add_mul];lia⟩)]
     by_cases q:i%st=0
     .rw [if_pos ⟨rfl,q,Xpy s0 hi' q⟩]
     .rw [if_neg λy'=>q y'.2.1,if_neg (show ¬ (j'%st=0/\j'<j') from λy'=>by lia),ok.off c i hcl hi' q,<- hcc,Xpw hi']
    .rw [if_neg λy'=>y y'.1]
     by_cases q:j'%st=0
     .have hne:j'≠n*st:=by rw[hj];exact y
      have:=Xno (n:=n) s0 q hne
      rw[hj]at this
      by_cases y2:j'<j
      .rw [if_pos ⟨q,y2⟩,if_pos ⟨q,this.mp y2⟩]
      .rw [if_neg λy'=>y2 y'.2,if_neg λy'=>y2 (this.mpr y'.2)]
     .rw [if_neg λy'=>q y'.1,if_neg λy'=>q y'.1]
 .rintro δ ⟨_,o1,o2,o3,rfl⟩
  rw[Xew]
  refine⟨_,rfl,?_⟩
  rw[Xts (e':=Yjt z op h st e)]
  .exact k
  .intro i j hi hj
   show (if j%st=0/\j<Xhx 0 w st*st then _ else _)=if j%st=0 then _ else _
   by_cases q:j%st=0
   .rw [if_pos ⟨q,Xpy s0 hj q⟩,if_pos q]
   .rw [if_neg λy=>q y.1,if_neg q]
theorem Ykl (h st:Nat)(s0:0<st):sliceRange 0 h st=(List.range (Xhx 0 h st)).map λk=>k*st:=by
 unfold sliceRange Xhx Builtin.Range.rangeSize
 have hs:(st:Int) > 0:=by lia
 simp only[hs,if_true]
 by_cases hh:(0:Int)<h
 .simp only[hh,if_true]
  have e:((h:Int)-0+st-1) / st=((h:Int)-0-1) / st+1:=by
   rw[show (h:Int)-0+st-1=((h:Int)-0-1)+1*st by lia,Int.add_mul_ediv_right _ _ (by lia)]
  rw[e]
  refine map_congr_left λk _=>?_
  rw[zero_add,Int.mul_comm]
  exact_mod_cast rfl
 .simp only[hh,if_false]
  rfl
theorem Ya8 {α β:Type}{f:α->Option β}{g:α->β}:∀{js:List α},(∀j∈js,f j=some (g j))->js.filterMap f=js.map g
 | [],_=>rfl
 |j::js,h=>by
  rw[filterMap_cons_some (h j mem_cons_self),Ya8 λk hk=>h k (mem_cons_of_mem _ hk),map_cons]
theorem Xrd {β:Type}{h st:Nat}{f:Nat->β}(s0:0<st):Xpz (tab h f) st=tab (Xhx 0 h st) λk=>f (k*st):=by
 unfold Xpz
 rw[Xbr,Ykl h st s0]
 rw[filterMap_map]
 refine Ya8 λk hk=>?_
 exact Xmx (Xmz s0 (mem_range.mp hk))
theorem Xvh {h:Nat}:Xhx 0 h (1:Nat)=h:=Xlt λi=>by
 rw[Xqb (by decide)]
 simp
abbrev Xj9:Stmt:=top 69
theorem Xwr:FnScope ["sheet","k"] ["sheet","k"] (Xae Xj9):=by walk_at "S"
def Xpa:DSp:=λds P=>∃(α:Type) (g:α->D) (h w k:Nat) (e:Nat->Nat->α),ds=[.lst (shV g h w e),.int k]/\k<=6/\h<=1000/\w<=1000/\P (.nl (shT g (Xhx 0 h (2^k:Nat)) (Xhx 0 w (2^k:Nat)) λi j=>e (i*2^k) (j*2^k)))
theorem Xw8 (Df:DefAt K mg "thinned" Xj9 f fd)(B:BltV mg)(KV:KitV K):
  Cal P w K mg base "thinned" 1 ["sheet","k"] (spV K 2 Xpa):=by
 refine CalV.of Df Xwr (by walk_at "b") rfl (λc A o s H E hr=>⟨_,_,(Xaj (Xaz (Xd6 rfl (Xfj (Xzk (pv 0) (Xaw Xi9 Xal (pv 1)))) (show BlkScope (Xae Xj9) _ from⟨rfl,by decide +kernel,by decide +kernel,by decide +kernel⟩) (N:=["row","k"]) (ix:=[none,some 1]) (show Xb2 _ _ _ _ from⟨⟨rfl,rfl,.inl rfl⟩,trivial⟩) (λ_ _ _=>(Xbc (i:=0) (show List.Nodup (["row","k"]:List Str) by decide +kernel) rfl (Or.inl rfl))) (λ_ _ _=>(Xzk (pv 0) (Xaw Xi9 Xal (pv 1))))))),
  (Xa2 (Xc4 (Xgq (Xby (Xy0 Xai (Xap (Xaq Xc5 (Xap Xah) Xad))))) Xbe (Xy0 Xai (Xap (Xaq Xc5 (Xap Xah) Xad))))),?_⟩)
 rintro ds Pr ⟨α,g,h,w,k,e,rfl,k6,hh,hw,q⟩
 have hp:(1:Int)*2^((k:Int)).toNat=((2^k:Nat):Int):=by simp
 have hp0:0<2^k:=pow_pos (by decide)
 fin2
 rw[hp]
 refine⟨⟨by lia,by lia⟩,by exact_mod_cast hp0,?_⟩
 simp only[shV]
 rw[Xrd hp0]
 simp only[Xhh,OV.val]
 have hle:=Yhb (h:=h) hp0
 refine Xmu.map (List.range (Xhx 0 h (2^k:Nat))) (λi=>D.lst (tab w λj=>g (e (i*2^k) j))) (λi=>.nl (tab (Xhx 0 w (2^k:Nat)) λj=>.fz (g (e (i*2^k) (j*2^k))))) (by rw[length_range];lia) (λi hi Q q=>?_) ?_
 .fin2
  rw[hp]
  refine⟨⟨by lia,by lia⟩,by exact_mod_cast hp0,?_⟩
  rw[Xrd hp0,Xhh]
  exact q
 .exact q
theorem Ya1 {α:Type}{z:α}{G:α->α->α->α}{h:Int}{st:Nat}{xs:List α}{p:Nat}(s0:0<st)(hh:h=0∨h=1)(hp:p%st≠0):(Xum z G h st xs).getD p z=xs.getD p z:=by
 rw[(Yn5 (z:=z) (G:=G) (h:=h) (st:=(st:Int)) (xs:=xs) (by lia) hh).2 p,if_neg]
 intro hm
 obtain⟨_,_,i,hi⟩:=(Xhz (show (0:Int)<st by lia)).mp hm
 apply hp
 rcases hh with rfl |rfl
 .have:p=i*2*st:=by
   have e:(p:Int)=((i*2*st:Nat):Int):=by rw[hi,Int.zero_mul,zero_add,<- mul_assoc];exact_mod_cast rfl
   exact_mod_cast e
  rw[this];exact mul_mod_left _ _
 .have:p=(1+i*2)*st:=by
   have e:(p:Int)=(((1+i*2)*st:Nat):Int):=by rw[hi,<- mul_assoc,<- Int.add_mul];exact_mod_cast rfl
   exact_mod_cast e
  rw[this];exact mul_mod_left _ _
theorem Xs6 {α:Type}{z:α}{G:Lf->α->α->α->α}{st:Nat}{p:Nat}(s0:0<st)(hp:p%st≠0):∀(gs:List Lf) (xs:List α),(∀f∈gs,f.Ok)->(gs.foldl (λxs f=>Xum z (G f) f.h st xs) xs).getD p z=xs.getD p z
 | [],_,_=>rfl
 |f::gs,xs,ok=>by
  rw[foldl_cons,Xs6 s0 hp gs _ λg hg=>ok g (mem_cons_of_mem _ hg)]
  exact Ya1 s0 (ok f mem_cons_self).h hp
theorem Yhf {fs:List Lf}{st:Int}{xs:List Int}:Xb8 fs st xs=fs.foldl (λxs f=>Xum 0 ((λ(f:Lf) x l r=>x+1*Xxn f l r) f) f.h st xs) xs:=rfl
theorem Ynt (h:k<=6):0<2^k/\2^k<=64:=⟨pow_pos (by decide),le_trans (Nat.pow_le_pow_right (by decide) h) (by decide)⟩
theorem Xr1 {fs:List Lf}{st n:Nat}(ok:∀f∈fs,f.Ok)(s0:0<st)(s1:st<=64)(hn:n<=1000):OpOk Int 0 D.int (Xb8 fs st) n st (Xog fs) Xep where
 run:=λr hr Q q=>⟨r,fs,st,rfl,⟨ok,by lia,by lia,by lia⟩,q⟩
 len:=λr hr=>by rw[Yhf,Xs7];exact hr
 off:=λr i hr hi hm=>Xs6 (z:=(0:Int)) (G:=λf x l r=>x+1*Xxn f l r) s0 hm fs r ok
 lf:=λx=>rfl
theorem Ygg {α:Type}{g:α->D}{h w:Nat}{e:Nat->Nat->α}:shT g (Xhx 0 h (2^0:Nat)) (Xhx 0 w (2^0:Nat)) (λi j=>e (i*2^0) (j*2^0))=shT g h w e:=by
 rw[show (2^0:Nat)=1 by decide,Xvh,Xvh]
 simp only[Nat.mul_one]
def shI (h w:Nat)(e:Nat->Nat->Int):D:=.lst (shV D.int h w e)
abbrev Xyt:Stmt:=top 68
theorem Xtv:FnScope ["picture","ladder","levels","sheet","k"] ["picture","ladder","levels"] (Xae Xyt):=by walk_at "S"
def Xyn:DSp:=λds P=>∃(h w:Nat) (e:Nat->Nat->Int) (fs:List Lf) (L:Nat),ds=[shI h w e,Xog fs,.int L]/\(∀f∈fs,f.Ok)/\L<=6/\0<h/\h<=1000/\w<=1000/\P (.nl (shT D.int h w (Ydk 0 (λk=>Xb8 fs (2^k:Nat)) h w L e)))
theorem Yhy (Df:DefAt K mg "laid" Xyt f fd)(B:BltV mg)(KV:KitV K)(Xc2:Xq8 K mg "raised")(Xn4:Cal P w K mg base "thinned" 1 ["sheet","k"] (spV K 2 Xpa))(Xg8:Cal P w K mg base "change_rows" 4 ["sheet","doing","ladder","stride"] (Ygc K 4 Xi0))(Xd9:Cal P w K mg base "change_columns" 4 ["sheet","doing","ladder","stride"] (Ygc K 4 Xfv)):
  Cal P w K mg base "laid" 5 ["picture","ladder","levels"] (spV K 3 Xyn):=by
 refine CalV.of Df Xtv (by walk_at "b") rfl (λc A o s H E hr=>⟨_,_,(Xag (Xa4 (i:=3) Xtv.nd rfl (Or.inl rfl) (Xa6 Xn4 (hr.mono (by decide)) (by rfl) (Xaa (pv 0) (Xaa Xal Xac))))
   (Xag (Xfz PassesOwn.never rfl (Xde (by rfl) (by exact B.range) (Xaa (pv 2) Xac)) (Xbc (i:=4) Xtv.nd rfl (Or.inl rfl)) (Xag (Xbs (Xa6 Xg8 (hr.mono (by decide)) (by rfl) (Xaa (pv 3) (Xaa (Xnh (by rfl) Xc2) (Xaa (pv 1) (Xaa (Xaw Xi9 Xal (pv 4)) Xac))))))
   (Xaj (Xbs (Xa6 Xd9 (hr.mono (by decide)) (by rfl) (Xaa (pv 3) (Xaa (Xnh (by rfl) Xc2) (Xaa (pv 1) (Xaa (Xaw Xi9 Xal (pv 4)) Xac)))))))))
   (Xaj (Xaz (pv 3))))),
  (Xao (Xa5 (Xa1 (Xab Xai (Xab Xah Xam))))
   (Xao (Xfy (Xgp (Xaf Xad Xan)) Xbe (Xao (Xrv (Xab (Xne Xc2) (Xab Xai (Xab (Xaq Xc5 (Xap Xah) Xad) Xam))))
   (Xrv (Xab (Xne Xc2) (Xab Xai (Xab (Xaq Xc5 (Xap Xah) Xad) Xam))))))
   Xna)),?_⟩)
 rintro ds Pr ⟨h,w,e,fs,L,rfl,ok,l6,h0,hh,hw,k⟩
 simp only[shI]
 gn_on
 refine⟨Int,D.int,h,w,0,e,rfl,by lia,hh,hw,?_⟩
 rw[Ygg]
 gp_on
 fin2
 refine⟨⟨by lia,by lia⟩,?_⟩
 refine⟨λn δ=>n<=L/\∃o,δ=[vD (shI h w e),vD (Xog fs),vI L,some (.own (.nl (shT D.int h w (Ydk 0 (λk=>Xb8 fs (2^k:Nat)) h w n e)))),o],⟨zero_le _,none,rfl⟩,?_,?_⟩
 .rintro n d δ hd ⟨hn,o,rfl⟩
  obtain⟨hi,rfl⟩:=Xgr hd
  have hnL:n<L:=by lia
  obtain⟨p0,p1⟩:=Ynt (show n<=6 by lia)
  have hp:(1:Int)*2^(0+(n:Int)*1).toNat=((2^n:Nat):Int):=by simp
  gn_on
  rw[hp]
  refine⟨⟨by (clear hw;lia),by (clear h0 hh hw;lia)⟩,Int,0,D.int,Xb8 fs (2^n:Nat),"raised",Xep,Xog fs,h,w,2^n,_,rfl,rfl,by simp[Xxv],Xr1 ok p0 p1 hw,p0,p1,hh,?_⟩
  gp_on
  fin2
  rw[hp]
  refine⟨⟨by (clear hw;lia),by (clear h0 hh hw;lia)⟩,Int,0,D.int,Xb8 fs (2^n:Nat),"raised",Xep,Xog fs,h,w,2^n,_,rfl,rfl,by simp[Xxv],Xr1 ok p0 p1 hh,p0,p1,h0,hh,hw,?_⟩
  exact⟨hnL,_,rfl⟩
 .rintro δ ⟨_,o,rfl⟩
  rw[Xew,show ((L:Int)).toNat=L by lia]
  exact k
theorem Xzh (h:a<=b):(2:Int)^a<=2^b:=by
 have:(2:Nat)^a<=2^b:=Nat.pow_le_pow_right (by decide) h
 exact_mod_cast this
theorem Yi4 (hd:1<=d)(h1 : -B<=q)(h2:q<=B)(hB:0<=B) : -B<=q / d/\q / d<=B:=by
 constructor
 .rw [Int.le_ediv_iff_mul_le (by lia)]
  have:B*1<=B*d:=Int.mul_le_mul_of_nonneg_left hd hB
  rw[neg_mul]
  lia
 .refine Int.ediv_le_of_le_mul (by lia) ?_
  have:B*1<=B*d:=Int.mul_le_mul_of_nonneg_left hd hB
  lia
theorem Xz7 (hc : -8<=c/\c<=8)(hx : -B<=x/\x<=B) : -(8*B)<=c*x/\c*x<=8*B:=by
 have hB:0<=B:=by lia
 rcases Int.le_total 0 c with h |h
 .have h1:c*x<=c*B:=Int.mul_le_mul_of_nonneg_left hx.2 h
  have h2:c*B<=8*B:=Int.mul_le_mul_of_nonneg_right hc.2 hB
  have h3:c*(-B)<=c*x:=Int.mul_le_mul_of_nonneg_left hx.1 h
  rw[Int.mul_neg]at h3
  exact⟨by lia,by lia⟩
 .have h1:(-c)*x<=(-c)*B:=Int.mul_le_mul_of_nonneg_left hx.2 (by lia)
  have h2:(-c)*B<=8*B:=Int.mul_le_mul_of_nonneg_right (by lia) hB
  have h3:(-c)*(-B)<=(-c)*x:=Int.mul_le_mul_of_nonneg_left hx.1 (by lia)
  rw[Int.mul_neg,neg_mul,neg_mul]at h3
  rw[neg_mul,neg_mul]at h1
  rw[neg_mul]at h2
  exact⟨by lia,by lia⟩
theorem Yiy (ok:f.Ok)(hb:6<=b)(hx : -2^b<=x/\x<=2^b)(hy : -2^b<=y/\y<=2^b) : -(17*2^b)<=Xxn f x y/\Xxn f x y<=17*2^b:=by
 have h6:(64:Int)<=2^b:=Xzh hb
 have h1:=Xz7 ok.l hx
 have h2:=Xz7 ok.r hy
 have h3:=ok.a
 have hd:(1:Int)<=2^f.s.toNat:=Xzh (zero_le _)
 exact Yi4 hd (by lia) (by lia) (by lia)
theorem Yif (ok:f.Ok)(hb:6<=b){st:Int}(hs:0<st)(h:∀p:Nat,-2^b<=xs.getD p 0/\xs.getD p 0<=2^b):∀p:Nat,-2^(b+5)<=(Xsx 1 f st xs).getD p 0/\(Xsx 1 f st xs).getD p 0<=2^(b+5):=λp=>by
 have e5:(2:Int)^(b+5)=32*2^b:=by rw[Int.pow_add,Int.mul_comm];rfl
 rw[(Xvu hs ok.h).2 p]
 have hp:=h p
 split
 .unfold Xlh
  have hg:=Yiy ok hb (h (nbL (p:Int) xs.length st).toNat) (h (nbR (p:Int) xs.length st).toNat)
  rw[toNat_natCast]
  exact⟨by lia,by lia⟩
 .exact ⟨by lia,by lia⟩
theorem Xqc {st:Int}(hs:0<st):∀{fs:List Lf} {b:Nat} {xs:List Int},(∀f∈fs,f.Ok)->6<=b->(∀p:Nat,-2^b<=xs.getD p 0/\xs.getD p 0<=2^b)->∀p:Nat,-2^(b+5*fs.length)<=(Xb8 fs st xs).getD p 0/\(Xb8 fs st xs).getD p 0<=2^(b+5*fs.length)
 | [],b,xs,_,_,h=>h
 |f::fs,b,xs,ok,hb,h=>by
  have:=Xqc hs (fs:=fs) (b:=b+5) (xs:=Xsx 1 f st xs) (λg hg=>ok g (by simp[hg])) (by lia) (Yif (ok f (by simp)) hb hs h)
  rw[length_cons,show b+5*(fs.length+1)=b+5+5*fs.length by lia]
  exact this
theorem Yd8 {f:Nat->Int}(h:∀i,-2^b<=f i/\f i<=2^b):∀p:Nat,-2^b<=(tab n f).getD p 0/\(tab n f).getD p 0<=2^b:=λp=>by
 have h0:(0:Int)<2^b:=Int.pow_pos (by decide)
 by_cases hp:p<n
 .rw [Xpw hp];exact h p
 .rw [getD_eq_getElem?_getD,getElem?_eq_none (by rw[Xbr];lia)]
  exact⟨by show -2^b<=(0:Int);lia,by show (0:Int)<=2^b;lia⟩
theorem Ye3 (ok:∀f∈fs,f.Ok){w:Nat}(hb:6<=b){e:Nat->Nat->Int}(he:∀i j,-2^b<=e i j/\e i j<=2^b):∀(L:Nat) (i j:Nat),-2^(b+10*fs.length*L)<=Ydk 0 (λk=>Xb8 fs (2^k:Nat)) h w L e i j/\Ydk 0 (λk=>Xb8 fs (2^k:Nat)) h w L e i j<=2^(b+10*fs.length*L)
 | 0,i,j=>he i j
 |L + 1,i,j=>by
  have ih:=Ye3 (h:=h) (w:=w) ok hb he L
  have hs:(0:Int)<((2^L:Nat):Int):=by have:=Nat.two_pow_pos L;lia
  have up:∀{a c:Nat} {x:Int},a<=c->(-2^a<=x/\x<=2^a)->-2^c<=x/\x<=2^c:=λhac hx=>by
   have:=Xzh hac
   exact⟨by (clear hb hs;lia),by (clear hb hs;lia)⟩
  have r1:∀i j,-2^(b+10*fs.length*L+5*fs.length)<=Yjp 0 (Xb8 fs (2^L:Nat)) w (2^L) (Ydk 0 (λk=>Xb8 fs (2^k:Nat)) h w L e) i j/\Yjp 0 (Xb8 fs (2^L:Nat)) w (2^L) (Ydk 0 (λk=>Xb8 fs (2^k:Nat)) h w L e) i j<=2^(b+10*fs.length*L+5*fs.length):=λi j=>by
   unfold Yjp
   split
   .exact Xqc hs ok (by lia) (Yd8 (ih i)) j
   .exact up (by lia) (ih i j)
  show -2^_<=Yjt 0 (Xb8 fs (2^L:Nat)) h (2^L) _ i j/\Yjt 0 (Xb8 fs (2^L:Nat)) h (2^L) _ i j<=_
  rw[show b+10*fs.length*(L+1)=b+10*fs.length*L+5*fs.length+5*fs.length by rw[mul_add];lia]
  unfold Yjt
  split
  .exact Xqc hs ok (by lia) (Yd8 (λi=>r1 i j)) i
  .exact up (by lia) (r1 i j)
theorem Ycx (e:Nat):(0:Int)<2^e:=by
 have h1:0<(2:Nat)^e:=pow_pos (by decide)
 have h2:((2^e:Nat):Int)=(2:Int)^e:=rfl
 omega
theorem Ynv (hi:0<=i)(hj:0<=j):Builtin.bitOr i j=((i.toNat|||j.toNat:Nat):Int):=by
 unfold Builtin.bitOr
 have e1:decide (0<=Builtin.bitNot i)=false:=decide_eq_false (by unfold Builtin.bitNot;lia)
 have e2:decide (0<=Builtin.bitNot j)=false:=decide_eq_false (by unfold Builtin.bitNot;lia)
 have e3:Builtin.bitNot (Builtin.bitNot i)=i:=by unfold Builtin.bitNot;lia
 have e4:Builtin.bitNot (Builtin.bitNot j)=j:=by unfold Builtin.bitNot;lia
 unfold Builtin.bitAnd
 rw[e1,e2]
 dsimp only
 rw[e3,e4]
 unfold Builtin.bitNot
 omega
theorem Yjj (n:Nat):Builtin.bitAnd (n:Int) 1=((n%2:Nat):Int):=by
 unfold Builtin.bitAnd
 rw[decide_eq_true (show (0:Int)<=(n:Int) by lia),decide_eq_true (show (0:Int)<=1 by decide)]
 have e:(1:Int).toNat=1:=rfl
 rw[toNat_natCast,e,Nat.and_one_is_mod]
theorem Ydx (hi:0<=i)(hj:0<=j)(L:Nat):Builtin.bitAnd (Builtin.bitOr i j / 2^L) 1=0↔i / 2^L%2=0/\j / 2^L%2=0:=by
 obtain⟨a,rfl⟩:=Int.eq_ofNat_of_zero_le hi
 obtain⟨b,rfl⟩:=Int.eq_ofNat_of_zero_le hj
 rw[Ynv hi hj]
 have e:((((a:Int).toNat|||(b:Int).toNat:Nat):Int) / 2^L)=(((a|||b) / 2^L:Nat):Int):=by
  simp
 rw[e,Yjj]
 have t:(a|||b) / 2^L%2=0↔(a / 2^L%2=0/\b / 2^L%2=0):=by
  have h:=Nat.testBit_or a b L
  rw[Nat.testBit_eq_decide_div_mod_eq,Nat.testBit_eq_decide_div_mod_eq,Nat.testBit_eq_decide_div_mod_eq]at h
  have h':=(decide_eq_decide (p:=(a|||b) / 2^L%2=1) (q:=a / 2^L%2=1∨b / 2^L%2=1)).mp (by rw[h,Bool.decide_or])
  lia
 have c1:((a:Int) / 2^L%2=0)↔a / 2^L%2=0:=by
  have:((a:Int) / 2^L%2)=((a / 2^L%2:Nat):Int):=by simp
  clear hj e;lia
 have c2:((b:Int) / 2^L%2=0)↔b / 2^L%2=0:=by
  have:((b:Int) / 2^L%2)=((b / 2^L%2:Nat):Int):=by simp
  clear hi e;lia
 rw[c1,c2,<- t]
 omega
def lvl:Nat->Int->Int->Nat
 | 0,_,_=>0
 |n+1,i,j=>if i%2=0/\j%2=0 then 1+lvl n (i / 2) (j / 2) else 0
theorem Xvr:∀(n:Nat) (i j:Int),lvl n i j<=n
 | 0,_,_=>Nat.le_refl _
 |n+1,i,j=>by
  unfold lvl
  split
  .have:=Xvr n (i / 2) (j / 2);lia
  .lia
theorem Ybd (i:Int)(L:Nat):i / 2^L / 2=i / 2^(L+1):=by
 rw[Int.pow_succ,Int.ediv_ediv_of_nonneg (Int.le_of_lt (Ycx L))]
abbrev Xky:Stmt:=top 44
theorem Xf8:FnScope ["i","j","levels","both","level"] ["i","j","levels"] (Xae Xky):=by walk_at "S"
def Xf4:DSp:=λds P=>match ds with
 | [.int i,.int j,.int n]=>(0<=i/\0<=j/\0<=n)/\P (.fz (.int (lvl n.toNat i j)))
 |_=>False
theorem Xub (Df:DefAt K mg "level_of" Xky f fd)(B:BltV mg)(KV:KitV K):
  Cal P w K mg base "level_of" 1 ["i","j","levels"] (spV K 3 Xf4):=by
 refine CalV.of Df Xf8 (by walk_at "b") rfl (λc A o s H E hr=>⟨_,_,(Xag (Xa4 (i:=3) Xf8.nd rfl (Or.inl rfl) (Xaw Ynw (pv 0) (pv 1)))
   (Xag (Xa4 (i:=4) Xf8.nd rfl (Or.inl rfl) Xal)
   (Xag (Xvl PassesOwn.never (Xzg (Xbb Xt9 (pv 4) (pv 2) (Xbf _)) (Xt2 (Xbb Xfk (Xaw Yew (Xaw Xzs (pv 3) (pv 4)) Xal) Xal (Xbf _)))).pt (Xaj (Yk4 (i:=4) Xf8.nd rfl (Or.inl rfl) Xal Yfe)))
   (Xaj (Xaz (pv 4)))))),
  (Xao (Xa5 (Xa0 (Xaq Xcl Xad Xad)))
   (Xao (Xa5 (Xa0 Xah))
   (Xao (Xva (Xyv (Xa9 (Xaq Xhf Xad Xad)) (Xa9 (Xaq Xfm (Xap (Xaq Xcl (Xap (Xaq Xc5 Xad Xad)) (Xap Xah))) (Xap Xah)))) (Ykj Ynx (Xap Xah)))
   (Xa2 (Xa0 Xai))))),?_⟩)
 intro ds Pr h
 unfold Xf4 at h
 split at h
 .rename_i i j n
  obtain⟨⟨hi,hj,hn⟩,k⟩:=h
  fin2
  refine⟨λm δ=>∃L:Nat,δ=[vI i,vI j,vI n,vI (Builtin.bitOr i j),vI L]/\(L:Int)<=n/\m=n.toNat-L/\lvl n.toNat i j=L+lvl (n.toNat-L) (i / 2^L) (j / 2^L),⟨_,0,rfl,by omega,rfl,by simp⟩,?_⟩
  rintro m δ ⟨L,rfl,h1,rfl,h2⟩
  fin2
  by_cases hL:(L:Int)<n
  .rw [if_pos hL]
   refine⟨by (clear h1;lia),?_⟩
   rw[toNat_natCast]
   obtain⟨q,hq⟩:∃q,n.toNat-L=q+1:=⟨n.toNat-L-1,by (clear h1;lia)⟩
   rw[hq,lvl]at h2
   have hb:=Ydx hi hj L
   by_cases hz:Builtin.bitAnd (Builtin.bitOr i j / 2^L) 1=0
   .rw [if_pos hz]
    rw[if_pos (hb.mp hz),Ybd,Ybd]at h2
    refine⟨n.toNat-(L+1),by lia,L+1,rfl,by lia,rfl,?_⟩
    rw[show n.toNat-(L+1)=q by lia]
    lia
   .rw [if_neg hz]
    rw[if_neg λz=>hz (hb.mpr z)]at h2
    rw[h2]at k
    exact k
  .rw [if_neg hL]
   have e:n.toNat-L=0:=by lia
   rw[e,lvl]at h2
   rw[h2]at k
   simpa using k
 .exact h.elim
def ptD (p:Int×Int):D:=.tup [.int p.1,.int p.2]
def Xk2 (i w:Nat):List (Int×Int):=(List.range w).map λ(j:Nat)=>((i:Int),(j:Int))
def Xo3 (h w:Nat):List (Int×Int):=(List.range h).flatMap λi=>Xk2 i w
def lvF (n:Nat)(p:Int×Int):Nat:=lvl n p.1 p.2
def grp (n:Nat)(ps:List (Int×Int))(l:Nat):List (Int×Int):=ps.filter λp=>lvF n p==l
def Xez (h w n:Nat):List (Int×Int):=((List.range (n+1)).map (grp n (Xo3 h w))).reverse.flatten
def Xvy (n:Nat)(ps:List (Int×Int)):List OV:=(List.range (n+1)).map λl=>.nl ((grp n ps l).map λp=>.fz (ptD p))
theorem Yds (n:Nat):Xvy n []=(List.range (n+1)).map λ_=>OV.nl []:=rfl
theorem Xqv (h:l<=n):(Xvy n ps)[l]?=some (.nl ((grp n ps l).map λp=>.fz (ptD p))):=by
 unfold Xvy
 rw[getElem?_map,List.getElem?_range (by lia)]
 rfl
theorem Yat {n:Nat}{ps:List (Int×Int)}{p:Int×Int}:(Xvy n ps).set (lvF n p) (.nl (((grp n ps (lvF n p)).map λp=>OV.fz (ptD p))++[.fz (ptD p)]))=Xvy n (ps++[p]):=by
 have hle:lvF n p<=n:=Xvr _ _ _
 refine ext_getElem? λl=>?_
 rw[getElem?_set]
 by_cases hl:l<=n
 .rw [Xqv hl,Xqv hl]
  have eg:grp n (ps++[p]) l=grp n ps l++(if lvF n p=l then [p] else []):=by
   unfold grp
   by_cases z:lvF n p=l<;>simp[z]
  rw[eg]
  by_cases z:lvF n p=l
  .rw [if_pos z,if_pos z,if_pos (by simp[Xvy];lia),map_append,z]
   rfl
  .rw [if_neg z,if_neg z,append_nil]
 .have e1:(Xvy n ps)[l]?=none:=getElem?_eq_none (by simp[Xvy];lia)
  have e2:(Xvy n (ps++[p]))[l]?=none:=getElem?_eq_none (by simp[Xvy];lia)
  rw[if_neg (by lia),e1,e2]
theorem Xxm {n l:Nat}{ps:List (Int×Int)}:(grp n ps l).length<=ps.length:=List.length_filter_le _ _
theorem Xtm {i w:Nat}:Xo3 (i+1) w=Xo3 i w++Xk2 i w:=by
 unfold Xo3
 rw[range_succ]
 simp
theorem Xw3 {i j:Nat}:Xk2 i (j+1)=Xk2 i j++[((i:Int),(j:Int))]:=by
 unfold Xk2
 rw[range_succ,map_append]
 rfl
theorem Xr7 {i w:Nat}:(Xk2 i w).length=w:=by simp[Xk2]
theorem Xwg {h w:Nat}:(Xo3 h w).length=h*w:=by
 induction h with
 |zero=>simp[Xo3]
 |succ h ih=>rw[Xtm,length_append,ih,Xr7,succ_mul]
theorem Yas {n:Nat}{ps:List (Int×Int)}:(Xvy n ps).map OV.val=(List.range (n+1)).map λl=>D.lst ((grp n ps l).map ptD):=by
 unfold Xvy
 rw[map_map]
 refine map_congr_left λl _=>?_
 show OV.val (.nl _)=_
 rw[OV.val,OV.vals_eq,map_map]
 rfl
theorem Xyi (k:Nat)(g:Nat->Nat):∀m:Nat,k<m->((List.range m).map λl=>g l+if k=l then 1 else 0).sum=((List.range m).map g).sum+1
 | 0,h=>by lia
 |m + 1,h=>by
  rw[range_succ,map_append,map_append,sum_append,sum_append]
  by_cases hk:k=m
  .subst hk
   have:((List.range k).map λl=>g l+if k=l then 1 else 0)=(List.range k).map g:=by
    refine map_congr_left λl hl=>?_
    rw[if_neg (by have:=mem_range.mp hl;lia)];rfl
   rw[this]
   simp
   lia
  .rw [Xyi k g m (by lia)]
   simp[hk]
   lia
theorem Yjx:∀m:Nat,((List.range m).map λ_=>0).sum=0
 | 0=>rfl
 |m+1=>by
  rw[range_succ,map_append,sum_append,Yjx m]
  rfl
theorem Yar (n:Nat):∀ps:List (Int×Int),((List.range (n+1)).map λl=>(grp n ps l).length).sum=ps.length
 | []=>by
  have:((List.range (n+1)).map λl=>(grp n [] l).length)=(List.range (n+1)).map λ_=>0:=map_congr_left λl _=>rfl
  exact Yjx _
 |p :: ps=>by
  have e:((List.range (n+1)).map λl=>(grp n (p::ps) l).length)=(List.range (n+1)).map λl=>(grp n ps l).length+if lvF n p=l then 1 else 0:=by
   refine map_congr_left λl _=>?_
   unfold grp
   by_cases z:lvF n p=l<;>simp[z]
  rw[e,Xyi _ _ _ (by have:=Xvr n p.1 p.2;unfold lvF;lia),Yar n ps]
  rfl
theorem Xjo {h w n:Nat}:(Xez h w n).length=h*w:=by
 unfold Xez
 rw[List.length_flatten,map_reverse,List.sum_reverse,map_map]
 exact (Yar n (Xo3 h w)).trans Xwg
theorem Xj1 {α:Type}{xs:List (List α)}{i:Nat}{x:List α}(h:xs[i]?=some x):(xs.take (i+1)).flatten=(xs.take i).flatten++x:=by
 obtain⟨hi,e⟩:=List.getElem?_eq_some_iff.mp h
 rw[List.take_succ_eq_append_getElem hi,e]
 simp
abbrev Xmc:Stmt:=top 45
theorem Xfx:FnScope ["high","wide","levels","groups","i","j","ordered","group"] ["high","wide","levels"] (Xae Xmc):=by walk_at "S"
def Xre:DSp:=λds P=>∃h w n:Nat,ds=[.int (h:Int),.int (w:Int),.int (n:Int)]/\(h<=100/\w<=100/\n<=100)/\P (.nl ((Xez h w n).map λp=>.fz (ptD p)))
theorem Xzx (Df:DefAt K mg "places" Xmc f fd)(B:BltV mg)(KV:KitV K)(Xlc:Cal P w K mg base "level_of" 1 ["i","j","levels"] (spV K 3 Xf4)):
  Cal P w K mg base "places" 2 ["high","wide","levels"] (spV K 3 Xre):=by
 refine CalV.of Df Xfx (by walk_at "b") rfl (λc A o s H E hr=>⟨_,_,(Xag (Xk1 (i:=3) Xfx.nd rfl (Or.inl rfl) rfl (Xde (by rfl) (by exact B.range) (Xaa (Xaw Xdj (pv 2) Xal) Xac)) (show BlkScope (Xae Xmc) _ from⟨rfl,by decide +kernel,by decide +kernel,by decide +kernel⟩) (N:=["level"]) (ix:=[none]) (show Xb2 _ _ _ _ from trivial) (λ_ _ _=>(Xbc (i:=0) (show List.Nodup (["level"]:List Str) by decide +kernel) rfl (Or.inl rfl))) (λ_ _ _=>(Xbm Xac)))
   (Xag (Xfz PassesOwn.never rfl (Xde (by rfl) (by exact B.range) (Xaa (pv 0) Xac)) (Xbc (i:=4) Xfx.nd rfl (Or.inl rfl)) (Xaj (Xfz PassesOwn.never rfl (Xde (by rfl) (by exact B.range) (Xaa (pv 1) Xac)) (Xbc (i:=5) Xfx.nd rfl (Or.inl rfl)) (Xaj (Xbs (Xdb plainAttrs_list PySem.F.slot_list_append PySem.F.type_list_append Xcb (Xba Xbk (pv 3) (Xa6 Xlc (hr.mono (by decide)) (by rfl) (Xaa (pv 4) (Xaa (pv 5) (Xaa (pv 2) Xac)))) (λ_ _=>rfl)) (Xaa (Xbw (Xaa (pv 4) (Xaa (pv 5) Xac))) Xac)))))))
   (Xag (Xa4 (i:=6) Xfx.nd rfl (Or.inl rfl) (Xbm Xac))
   (Xag (Xfz PassesOwn.never rfl (Xr9 rfl B.reversed (Xaa (pv 3) Xac)) (Xbc (i:=7) Xfx.nd rfl (Or.inl rfl)) (Xaj (Xbs (Xdb plainAttrs_list PySem.F.slot_list_extend PySem.F.type_list_extend Xxd (pv 6) (Xaa (pv 7) Xac)))))
   (Xaj (Xaz (pv 6))))))),
  (Xao (Xa5 (Xc4 (Xgp (Xaf (Xap (Xaq Xcl Xad (Xap Xah))) Xan)) Xbe (Xb3 Xbn)))
   (Xao (Xfy (Xgp (Xaf Xad Xan)) Xbe (Xfy (Xgp (Xaf Xad Xan)) Xbe (Ygq (Xap (Xby (Xa1 (Xab Xai (Xab Xai (Xab Xai Xam)))))) (Xa0 (Xcp (Xab Xai (Xab Xai Xam)))))))
   (Xao (Xa5 (Xb3 Xbn))
   (Xao (Xyx 3 (Xfy (Ygw (Xab Xai Xam)) Xbe (Yki Xai)))
   Xna)))),?_⟩)
 rintro ds Pr ⟨h,w',n,rfl,⟨hh,hw,hn⟩,k⟩
 refine Yeh λN hN=>?_
 fin2
 refine⟨⟨by lia,by lia⟩,Xmu.rng (λ_=>.nl []) (by lia) (λi hi Q q=>by fin2;exact q) ?_⟩
 rw[show ((n:Int)+1).toNat=n+1 by lia,<- Yds]
 gp_on
 gn_on
 refine⟨⟨by lia,by lia⟩,λi δ=>i<=h/\∃o4 o5 o6 o7,δ=[vI h,vI w',vI n,vL (Xvy n (Xo3 i w')),o4,o5,o6,o7],⟨zero_le _,_,_,_,_,rfl⟩,?_,?_⟩
 .rintro i d δ hd ⟨hi',o4,o5,o6,o7,rfl⟩
  obtain⟨hi,rfl⟩:=Xgr hd
  rw[toNat_natCast]at hi
  fin2
  refine⟨⟨by lia,by lia⟩,λj δ=>∃o5,δ=[vI h,vI w',vI n,vL (Xvy n (Xo3 i w'++Xk2 i j)),vI (0+(i:Int)*1),o5,o6,o7],⟨o5,by simp[Xk2]⟩,?_,?_⟩
  .rintro j e δ he ⟨o5,rfl⟩
   obtain⟨hj,rfl⟩:=Xgr he
   rw[toNat_natCast]at hj
   rw[show 0+(i:Int)*1=i by lia,show 0+(j:Int)*1=j by lia]
   fin2
   simp only[Xf4]
   refine⟨⟨by lia,by lia,by lia⟩,?_⟩
   fin2
   rw[toNat_natCast,toNat_natCast]
   have hle:lvl n i j<=n:=Xvr _ _ _
   refine⟨by lia,_,Xqv (l:=lvl n i j) hle,?_,?_⟩
   .have h1:=Xxm (n:=n) (l:=lvl n i j) (ps:=Xo3 i w'++Xk2 i j)
    rw[length_append,Xwg,Xr7]at h1
    have h2:i*w'<=100*100:=mul_le_mul (by lia) hw
    rw[length_map]
    lia
   .have e:=Yat (n:=n) (ps:=Xo3 i w'++Xk2 i j) (p:=((i:Int),(j:Int)))
    rw[append_assoc,<- Xw3]at e
    rw[<- e]
    exact⟨_,rfl⟩
  .rintro δ ⟨o5,rfl⟩
   rw[Xew,toNat_natCast,<- Xtm]
   exact⟨hi,_,_,_,_,rfl⟩
 rintro δ ⟨hi,o4,o5,o6,o7,rfl⟩
 rw[Xew,toNat_natCast]
 gp_on
 gn_on
 gp_on
 gn_on
 rw[Yas,<- map_reverse]
 generalize hg3:some (Sl.own (OV.fz (D.lst ((List.range (n+1)).map λl=>D.lst ((grp n (Xo3 h w') l).map ptD)))))=o3
 refine⟨λi δ=>∃o7,δ=[vI h,vI w',vI n,o3,o4,o5,vL ((((((List.range (n+1)).map (grp n (Xo3 h w'))).reverse).take i).flatten).map λp=>.fz (ptD p)),o7],?_,?_,?_⟩
 .exact ⟨_,rfl⟩
 .rintro i d δ hd ⟨o7,rfl⟩
  obtain⟨l,hl,rfl⟩:=Ydg hd
  have hx:(((List.range (n+1)).map (grp n (Xo3 h w'))).reverse)[i]?=some (grp n (Xo3 h w') l):=by
   rw[<- map_reverse,getElem?_map,hl]
   rfl
  dsimp only
  rw[Xj1 hx]
  have hlen:((((List.range (n+1)).map (grp n (Xo3 h w'))).reverse.take i).flatten).length+(grp n (Xo3 h w') l).length<=10000:=by
   rw[<- length_append,<- Xj1 hx]
   have h1:((((List.range (n+1)).map (grp n (Xo3 h w'))).reverse.take (i+1)).flatten).length<=(Xez h w' n).length:=by
    unfold Xez
    conv=>rhs;rw[<- take_append_drop (i+1) ((List.range (n+1)).map (grp n (Xo3 h w'))).reverse,List.flatten_append,length_append]
    lia
   rw[Xjo]at h1
   have h2:h*w'<=100*100:=mul_le_mul hh hw
   lia
  fin2
  refine⟨by lia,?_⟩
  rw[map_map,map_append]
  exact⟨_,rfl⟩
 .rintro δ ⟨o7,rfl⟩
  rw[length_map,length_reverse,length_range,take_of_length_le (by simp)]
  gp_on
  fin2
  exact k
theorem Xz8 {i w:Nat}{p:Int×Int}:p∈Xk2 i w↔p.1=i/\0<=p.2/\p.2<w:=by
 unfold Xk2
 rw[mem_map]
 constructor
 .rintro ⟨j,hj,rfl⟩
  have:=mem_range.mp hj
  exact⟨rfl,by show (0:Int)<=(j:Int);lia,by show (j:Int)<w;lia⟩
 .rintro ⟨h1,h2,h3⟩
  exact⟨p.2.toNat,mem_range.mpr (by lia),Prod.ext h1.symm (by show ((p.2.toNat:Nat):Int)=p.2;lia)⟩
theorem Yib {h w:Nat}{p:Int×Int}:p∈Xo3 h w↔(0<=p.1/\p.1<h)/\0<=p.2/\p.2<w:=by
 unfold Xo3
 rw[List.mem_flatMap]
 constructor
 .rintro ⟨i,hi,hp⟩
  have:=mem_range.mp hi
  obtain⟨h1,h2⟩:=Xz8.mp hp
  exact⟨by lia,h2⟩
 .rintro ⟨h1,h2⟩
  exact⟨p.1.toNat,mem_range.mpr (by omega),Xz8.mpr ⟨by lia,h2⟩⟩
theorem Xt4 {w:Nat}(hp:p∈Xez h w n):(0<=p.1/\p.1<h)/\0<=p.2/\p.2<w:=by
 obtain⟨l,hl,hp⟩:=List.mem_flatten.mp hp
 rw[List.mem_reverse,mem_map]at hl
 obtain⟨k,_,rfl⟩:=hl
 exact Yib.mp (mem_filter.mp hp).1
def Yjr:D->Bool
 | .int _=>true
 |_=>false
def Yep (w:Int):D->Bool
 | .lst xs=>decide ((xs.length:Int)=w) && xs.all Yjr
 |_=>false
def Yeg (n:Nat):Bool:=decide (1<=n) && decide (n<=64)
def Yhm:D->Bool
 | .lst (.lst r::rs)=>Yeg (rs.length+1) && Yeg r.length && (D.lst r::rs).all (Yep r.length)
 |_=>false
def knD:D->Bool
 | .ty _=>false
 | .fn _=>false
 | .exc _=>false
 | .obj _ _ _=>false
 |_=>true
def okP (d:D):Prop:=knD d=true/\∀xs,d = .lst xs->xs.length<=1000/\∀x∈xs,knD x=true/\∀ys,x = .lst ys->ys.length<=1000/\∀y∈ys,knD y=true
abbrev Xjh:Stmt:=top 42
theorem Xrp:FnScope ["thing"] ["thing"] (Xae Xjh):=by walk_at "S"
def Xe9:DSp:=λds P=>∃d,ds=[d]/\knD d=true/\P (.fz (.bl (Yjr d)))
theorem Xsj (Df:DefAt K mg "is_number" Xjh f fd)(B:BltV mg)(KV:KitV K):
  Cal P w K mg base "is_number" 1 ["thing"] (spV K 1 Xe9):=by
 refine CalV.of Df Xrp (by walk_at "b") rfl (λc A o s H E hr=>⟨_,_,(Xaj (Xaz (Xsb (Xar Xd2 (by rfl) B.isinstance boot_isinstance (Xaa (pv 0) (Xaa (Xgt (v:=.ty "int") (by rfl) B.int PyProof.Rows.boot_int (by rfl)) Xac))) (Xsa (Yk7 (Xar Xd2 (by rfl) B.isinstance boot_isinstance (Xaa (pv 0) (Xaa (Xgt (v:=.ty "bool") (by rfl) B.bool PyProof.Rows.boot_bool (by rfl)) Xac)))))))),
  (Xa2 (Xa0 (Xnf (Xbl (Xly KV) (Xaf Xad (Xaf (Xap Xp9) Xan))) (Ygy (Xbl (Xly KV) (Xaf Xad (Xaf (Xap Xp9) Xan))))))),?_⟩)
 rintro ds Pr ⟨d,rfl,hk,k⟩
 cases d<;>first | (simp[knD]at hk;done) | (fin2;exact k)
abbrev Xtw:Stmt:=top 19
theorem Ycg:FnScope ["one","number"] ["one","number"] (Xae Xtw):=by walk_at "S"
def Xii:DSp:=λds P=>∃a b n:Int,ds=[.tup [.int a,.int b],.int n]/\P (.fz (.bl (decide (a<=n) && decide (n<=b))))
theorem Yc9 (Df:DefAt K mg "holds" Xtw f fd)(B:BltV mg)(KV:KitV K):
  Cal P w K mg base "holds" 1 ["one","number"] (spV K 2 Xii):=by
 refine CalV.of Df Ycg (by walk_at "b") rfl (λc A o s H E hr=>⟨_,_,(Xaj (Xaz (Yc6 Yc7 Yc7 (Xba Xbh (pv 0) Xal (λ_ _=>rfl)) (pv 1) (Xba Xbh (pv 0) Xal (λ_ _=>rfl))))),
  (Xa2 (Xa0 (Xve Xhf Xhf (Xca (OpF.b Xbg) Xad (Xap Xah)) Xad (Xca (OpF.b Xbg) Xad (Xap Xah))))),?_⟩)
 rintro ds Pr ⟨a,b,n,rfl,k⟩
 fin2
 by_cases h:a<=n
 .rw [if_pos h]
  rw[decide_eq_true h,Bool.true_and]at k
  exact k
 .rw [if_neg h]
  rw[decide_eq_false h,Bool.false_and]at k
  exact k
abbrev Xme:Stmt:=top 64
theorem Xyr:FnScope ["thing","wide"] ["thing","wide"] (Xae Xme):=by walk_at "S"
def Xrg:DSp:=λds P=>∃(d:D) (w:Int),ds=[d,.int w]/\knD d=true/\(∀xs,d = .lst xs->xs.length<=1000/\∀x∈xs,knD x=true)/\P (.fz (.bl (Yep w d)))
theorem Xtl {α:Type}{f:α->Bool}{xs:List α}:(xs.map f).all id=xs.all f:=by simp[ Function.comp_def]
theorem Xzz (Df:DefAt K mg "is_row" Xme f fd)(B:BltV mg)(KV:KitV K)(Xcg:Cal P w K mg base "is_number" 1 ["thing"] (spV K 1 Xe9)):
  Cal P w K mg base "is_row" 2 ["thing","wide"] (spV K 2 Xrg):=by
 refine CalV.of Df Xyr (by walk_at "b") rfl (λc A o s H E hr=>⟨_,_,(Xag (Xb0 (Xop (Xey (Xcv (Xar Xd2 (by rfl) B.isinstance boot_isinstance (Xaa (pv 0) (Xaa (Xgt (v:=.ty "list") (by rfl) B.list PyProof.Rows.boot_list (by rfl)) Xac))))) (Xi8 (Xbb Xt8 (Xar Xax (by rfl) B.len boot_len (Xaa (pv 0) Xac)) (pv 1) (Xbf _)))).pt (Xaj (Xaz Xl3)) Xa8)
   (Xaj (Xaz (Xar (Xh9 rfl) (by rfl) B.all boot_all (Xaa (Xd6 rfl (Xfj (pv 0)) (show BlkScope (Xae Xme) _ from⟨rfl,by decide +kernel,by decide +kernel,by decide +kernel⟩) (N:=["number"]) (ix:=[none]) (show Xb2 _ _ _ _ from trivial) (λ_ _ _=>(Xbc (i:=0) (show List.Nodup (["number"]:List Str) by decide +kernel) rfl (Or.inl rfl))) (λ_ _ _=>(Xa6 Xcg (hr.mono (by decide)) (by rfl) (Xaa (pv 0) Xac)))) Xac))))),
  (Xao (Xcd (Xoo (Xeu (Xoe (Xbl (Xly KV) (Xaf Xad (Xaf (Xap Xp9) Xan))))) (Xa9 (Xaq Xud (Xap (Xbl Xco (Xaf Xad Xan))) Xad))) (Xa2 (Xa0 Xl2)) Xa7)
   (Xa2 (Xa0 (Xbl Xte (Xaf (Xap (Xby (Xc4 (Xgq Xai) Xbe (Xa1 (Xab Xai Xam))))) Xan))))),?_⟩)
 rintro ds Pr ⟨d,w,rfl,hk,hx,k⟩
 cases d with
 |lst xs=>
  obtain⟨hl,hk2⟩:=hx xs rfl
  fin2
  simp only[Yep]at k
  by_cases h:(xs.length:Int)=w
  .rw [decide_eq_true h]at k ⊢
   simp only[Bool.not_true,false_eq_true,if_false]
   rw[show xs=xs.map id by simp]
   refine Xmu.map xs id (λx=>.fz (.bl (Yjr x))) (by lia) (λx hx Q q=>?_) ?_
   .fin2
    exact⟨x,rfl,hk2 x hx,q⟩
   .fin2
    refine⟨xs.map Yjr,by simp only[map_map,Function.comp_def,OV.val],?_⟩
    rw[Xtl]
    exact k
  .rw [decide_eq_false h]at k ⊢
   simp only[Bool.not_false,if_true]
   exact k
 |_=>first | (simp[knD]at hk;done) | (fin2;exact k)
abbrev Xfb:Stmt:=top 65
theorem Xp1:FnScope ["thing"] ["thing"] (Xae Xfb):=by walk_at "S"
def Xj5:DSp:=λds P=>∃d:D,ds=[d]/\okP d/\P (.fz (.bl (Yhm d)))
theorem Yef {n:Nat}:(decide ((1:Int)<=(n:Int)) && decide ((n:Int)<=64))=Yeg n:=by
 congr 1
 .exact decide_eq_decide.mpr (by omega)
 .exact decide_eq_decide.mpr (by omega)
theorem Xqo (Df:DefAt K mg "is_picture" Xfb f fd)(B:BltV mg)(KV:KitV K)(Xqw:Ybz K mg "SIZES" (D.tup [.int 1,.int 64]))(Xdp:Cal P w K mg base "holds" 1 ["one","number"] (spV K 2 Xii))(Xq5:Cal P w K mg base "is_row" 2 ["thing","wide"] (spV K 2 Xrg)):
  Cal P w K mg base "is_picture" 3 ["thing"] (spV K 1 Xj5):=by
 refine CalV.of Df Xp1 (by walk_at "b") rfl (λc A o s H E hr=>⟨_,_,(Xag (Xb0 (Xop (Xey (Xcv (Xar Xd2 (by rfl) B.isinstance boot_isinstance (Xaa (pv 0) (Xaa (Xgt (v:=.ty "list") (by rfl) B.list PyProof.Rows.boot_list (by rfl)) Xac))))) (Xi8 (Xey (Xcv (Xa6 Xdp (hr.mono (by decide)) (by rfl) (Xaa (Xeh (by rfl) Xqw) (Xaa (Xar Xax (by rfl) B.len boot_len (Xaa (pv 0) Xac)) Xac))))))).pt (Xaj (Xaz Xl3)) Xa8)
   (Xag (Xb0 (Xop (Xey (Xcv (Xar Xd2 (by rfl) B.isinstance boot_isinstance (Xaa (Xba Xbk (pv 0) Xal (λ_ _=>rfl)) (Xaa (Xgt (v:=.ty "list") (by rfl) B.list PyProof.Rows.boot_list (by rfl)) Xac))))) (Xi8 (Xey (Xcv (Xa6 Xdp (hr.mono (by decide)) (by rfl) (Xaa (Xeh (by rfl) Xqw) (Xaa (Xar Xax (by rfl) B.len boot_len (Xaa (Xba Xbk (pv 0) Xal (λ_ _=>rfl)) Xac)) Xac))))))).pt (Xaj (Xaz Xl3)) Xa8)
   (Xaj (Xaz (Xar (Xh9 rfl) (by rfl) B.all boot_all (Xaa (Xd6 rfl (Xfj (pv 0)) (show BlkScope (Xae Xfb) _ from⟨rfl,by decide +kernel,by decide +kernel,by decide +kernel⟩) (N:=["row","thing"]) (ix:=[none,some 0]) (show Xb2 _ _ _ _ from⟨⟨rfl,rfl,.inl rfl⟩,trivial⟩) (λ_ _ _=>(Xbc (i:=0) (show List.Nodup (["row","thing"]:List Str) by decide +kernel) rfl (Or.inl rfl))) (λ_ _ _=>(Xa6 Xq5 (hr.mono (by decide)) (by rfl) (Xaa (pv 0) (Xaa (Xar Xax (by rfl) B.len boot_len (Xaa (Xba Xbk (pv 1) Xal (λ_ _=>rfl)) Xac)) Xac))))) Xac)))))),
  (Xao (Xcd (Xoo (Xeu (Xoe (Xbl (Xly KV) (Xaf Xad (Xaf (Xap Xp9) Xan))))) (Xeu (Xoe (Xby (Xa1 (Xab Xqa (Xab (Xbl Xco (Xaf Xad Xan)) Xam))))))) (Xa2 (Xa0 Xl2)) Xa7)
   (Xao (Xcd (Xoo (Xeu (Xoe (Xbl (Xly KV) (Xaf (Xca (OpF.b Xb4) Xad (Xap Xah)) (Xaf (Xap Xp9) Xan))))) (Xeu (Xoe (Xby (Xa1 (Xab Xqa (Xab (Xbl Xco (Xaf (Xca (OpF.b Xb4) Xad (Xap Xah)) Xan)) Xam))))))) (Xa2 (Xa0 Xl2)) Xa7)
   (Xa2 (Xa0 (Xbl Xte (Xaf (Xap (Xby (Xc4 (Xgq Xai) Xbe (Xa1 (Xab Xai (Xab (Xbl Xco (Xaf (Xca (OpF.b Xb4) Xad (Xap Xah)) Xan)) Xam)))))) Xan)))))),?_⟩)
 rintro ds Pr ⟨d,rfl,⟨hk,hx⟩,k⟩
 cases d with
 |lst xs=>
  obtain⟨hl,hk2⟩:=hx xs rfl
  fin2
  refine⟨1,64,_,rfl,?_⟩
  fin2
  rw[Yef]
  cases xs with
  |nil=>exact k
  |cons x rs=>
   rw[show (x::rs).length=rs.length+1 from rfl]
   have kx:=hk2 x mem_cons_self
   by_cases hs:Yeg (rs.length+1)=true
   .rw [hs]
    simp only[Bool.not_true,false_eq_true,if_false]
    refine⟨x,Yby,?_⟩
    cases x with
    |lst r=>
     fin2
     refine⟨1,64,_,rfl,?_⟩
     fin2
     rw[Yef]
     simp only[Yhm,hs,Bool.true_and]at k
     by_cases hr:Yeg r.length=true
     .rw [hr]
      rw[hr,Bool.true_and]at k
      simp only[Bool.not_true,false_eq_true,if_false]
      rw[show D.lst r::rs=(D.lst r::rs).map id by simp]
      refine Xmu.map (D.lst r::rs) id (λx=>.fz (.bl (Yep r.length x))) (by simp at hl ⊢;lia) (λx hx' Q q=>?_) ?_
      .fin2
       have:=hk2 x (by simpa using hx')
       simp only[List.map_id_fun',id_eq,map_cons,map_id,Yby]
       exact⟨x,_,rfl,this.1,this.2,q⟩
      .fin2
       refine⟨(D.lst r::rs).map (Yep r.length),by simp only[map_map,map_cons,Function.comp_def,OV.val],?_⟩
       rw[Xtl]
       exact k
     .have hr':Yeg r.length=false:=by simpa using hr
      rw[hr']
      rw[hr',Bool.false_and]at k
      simp only[Bool.not_false,if_true]
      exact k
    |_=>
     have kx1:=kx.1
     simp only[Yhm]at k
     first | (simp[knD]at kx1;done) | (fin2;exact k)
   .have hs':Yeg (rs.length+1)=false:=by simpa using hs
    rw[hs']
    simp only[Bool.not_false,if_true]
    cases x<;>simp only[Yhm,hs',Bool.false_and]at k<;>exact k
 |_=>first | (simp[knD]at hk;done) | (fin2;exact k)
theorem Yjk {xs:List Int}:(xs.map D.int).all Yjr=true:=by simp[Yjr]
theorem Xvg {w:Nat}{f:Nat->Int}:(tab w λj=>D.int (f j))=(tab w f).map D.int:=by rw[Xhh]
theorem Xy8 {xs:List Int}{w:Int}:Yep w (.lst (xs.map D.int))=decide ((xs.length:Int)=w):=by
 simp only[Yep,Yjk,Bool.and_true,length_map]
theorem Xzj {w:Nat}{e:Nat->Nat->Int}(h0:0<h)(w0:0<w):Yhm (.lst (shV D.int h w e))=(decide (h<=64) && decide (w<=64)):=by
 obtain⟨h',rfl⟩:∃h',h=h'+1:=⟨h-1,by lia⟩
 have e1:shV D.int (h'+1) w e=D.lst (tab w λj=>D.int (e 0 j))::(List.range h').map λi=>D.lst (tab w λj=>D.int (e (i+1) j)):=by
  unfold shV
  conv=>lhs;unfold tab
  rw[List.range_succ_eq_map,map_cons,map_map]
  rfl
 have e2:(shV D.int (h'+1) w e).all (Yep w)=true:=by
  rw[all_eq_true]
  intro x hx
  obtain⟨i,_,rfl⟩:=mem_map.mp hx
  rw[Xvg,Xy8,Xbr]
  simp
 rw[e1]at e2 ⊢
 simp only[Yhm,Xbr,e2,Bool.and_true,length_map,length_range]
 unfold Yeg
 rw[decide_eq_true (show 1<=h'+1 by lia),decide_eq_true (show 1<=w by lia),Bool.true_and,Bool.true_and]
theorem Ydb (hl:xs.length<=1000)(h:∀x∈xs,knD x=true/\∀ys,x = .lst ys->ys.length<=1000/\∀y∈ys,knD y=true):okP (.lst xs):=⟨rfl,λxs' e=>by cases e;exact⟨hl,h⟩⟩
theorem Ylg {ls:List Int}(hl:ls.length<=1000):knD (D.lst (ls.map D.int))=true/\∀ys,D.lst (ls.map D.int) = .lst ys->ys.length<=1000/\∀y∈ys,knD y=true:=⟨rfl,λys e=>by
 cases e
 refine⟨by simpa using hl,λy hy=>?_⟩
 obtain⟨i,_,rfl⟩:=mem_map.mp hy
 rfl⟩
theorem Xz1 {w:Nat}{e:Nat->Nat->Int}(hh:h<=100)(hw:w<=100):okP (.lst (shV D.int h w e)):=by
 refine Ydb (by rw[shV,Xbr];lia) λy hy=>?_
 obtain⟨k,_,rfl⟩:=mem_map.mp hy
 rw[Xvg]
 exact Ylg (by rw[Xbr];lia)
abbrev Yn1:List (Str×D):=[("still",.tup []),("pair",.tup [.tup [.int 1,.int (-1),.int 0,.int 0,.int 0],.tup [.int 0,.int 0,.int 1,.int 0,.int 1]]),("line",.tup [.tup [.int 1,.int (-1),.int (-1),.int 1,.int 1],.tup [.int 0,.int 1,.int 1,.int 2,.int 2]]),("long",.tup [.tup [.int 1,.int (-1),.int (-1),.int 1,.int 1],.tup [.int 0,.int 1,.int 1,.int 2,.int 2],.tup [.int 1,.int (-1),.int (-1),.int 4,.int 3]])]
def Xhl:DSp:=λds P=>∃k d,ds=[.str k]/\Yn1.lookup k=some d/\P (.fz d)
abbrev Xjg:Stmt:=top 57
theorem Xro:FnScope ["name"] ["name"] (Xae Xjg):=by walk_at "S"
theorem Xsi (Df:DefAt K mg "ladder_of" Xjg f fd)(B:BltV mg)(KV:KitV K)(Xks:Ym1 w K mg "LADDERS" [("still",.tup []),("pair",.tup [.tup [.int 1,.int (-1),.int 0,.int 0,.int 0],.tup [.int 0,.int 0,.int 1,.int 0,.int 1]]),("line",.tup [.tup [.int 1,.int (-1),.int (-1),.int 1,.int 1],.tup [.int 0,.int 1,.int 1,.int 2,.int 2]]),("long",.tup [.tup [.int 1,.int (-1),.int (-1),.int 1,.int 1],.tup [.int 0,.int 1,.int 1,.int 2,.int 2],.tup [.int 1,.int (-1),.int (-1),.int 4,.int 3]])]):
  Cal P w K mg base "ladder_of" 1 ["name"] (spV K 1 Xhl):=by
 refine CalV.of Df Xro (by walk_at "b") rfl (λc A o s H E hr=>⟨_,_,(Xag (Xb0 (Yk3 (Xzp (by rfl) Xks (pv 0))) (Xaj Xmj) Xa8)
   (Xaj (Xaz (Yhr (by rfl) Xks (pv 0) (λ_ _=>rfl))))),
  (Xao (Xcd (Xoe (Xy4 Xai)) Xmf Xa7)
   (Xa2 (Xa0 (Yg0 Xai)))),?_⟩)
 rintro ds Pr ⟨k,d,rfl,hk,h⟩
 fin2
 have hn:(Yn1.lookup k).isNone=false:=by rw[hk];rfl
 rw[show (List.lookup k _).isNone=false from hn]
 rw[if_neg Bool.false_ne_true]
 exact⟨d,hk,h⟩
abbrev Yb8 (ns:List Int):D:=.tup (ns.map .int)
def sp5:List (Int×Int):=[(0,1),(-8,8),(-8,8),(-64,64),(0,8)]
def Xsy (ns:List Int):Bool:=decide (ns.length=5) && (ns.zip sp5).all λq=>decide (q.2.1<=q.1) && decide (q.1<=q.2.2)
def Yb2 (lss:List (List Int)):Bool:=decide (lss.length<=6) && lss.all Xsy
def spH:List (Int×Int):=[(1,64),(1,64),(0,6),(0,4000)]
def Xci (p:Int×Int)(n:Int):Bool:=decide (p.1<=n) && decide (n<=p.2)
def Xpb:DSp:=λds P=>∃ns:List Int,ds=[Yb8 ns]/\ns.length<=10000/\P (.fz (.bl (Xsy ns)))
def Xhm:DSp:=λds P=>∃lss:List (List Int),ds=[.tup (lss.map Yb8)]/\lss.length<=10000/\(∀ns∈lss,ns.length<=10000)/\P (.fz (.bl (Yb2 lss)))
def Xkw:DSp:=λds P=>∃(n:Int) (at':Nat) (p:Int×Int),ds=[.int n,.int at']/\spH[at']?=some p/\P (.fz (.bl (Xci p n)))
theorem Yie {f:Lf}(ok:f.Ok):Xsy [f.h,f.l,f.r,f.a,f.s]=true:=by
 have h1:=ok.h
 have h2:=ok.l
 have h3:=ok.r
 have h4:=ok.a
 have h5:=ok.s
 unfold Xsy sp5
 simp
 omega
abbrev lfN (f:Lf):List Int:=[f.h,f.l,f.r,f.a,f.s]
theorem Yai (fs:List Lf):Xog fs = .tup ((fs.map lfN).map Yb8):=by
 rw[map_map]
 rfl
theorem Ye4 {fs:List Lf}(hl:fs.length<=6)(ok:∀f∈fs,f.Ok):Yb2 (fs.map lfN)=true:=by
 unfold Yb2
 rw[length_map,decide_eq_true hl,Bool.true_and,all_eq_true]
 intro ns hn
 obtain⟨f,hf,rfl⟩:=mem_map.mp hn
 exact Yie (ok f hf)
def Xk6 (h w:Nat)(e:Nat->Nat->Int)(fs:List Lf)(L:Nat):List Int:=(Xez h w L).map λp=>Ydk 0 (λk=>Xb8 fs (2^k:Nat)) h w L e p.1.toNat p.2.toNat
def Xu7:DSp:=λds P=>∃(h w:Nat) (e:Nat->Nat->Int) (fs:List Lf) (L b:Nat),ds=[shI h w e,Xog fs,.int L]/\fs.length<=6/\(∀f∈fs,f.Ok)/\L<=6/\0<h/\h<=64/\0<w/\w<=64/\b<=4000/\(∀x∈Xk6 h w e fs L,ibN x<=b)/\3*(h*w)*b<=900000/\
 ∀(n:Nat) (bs:List Bool) (v:Wk),(∃x∈Xk6 h w e fs L,ibN x=n)->(∀x∈Xk6 h w e fs L,ibN x<=n)->n<=b->Tell (Xk6 h w e fs L) (Wk.turn ⟨n,0,[],[⟨0,0,(Xk6 h w e fs L).length,1-2^n,2^n-1⟩],[]⟩) bs->Fol (Wk.turn ⟨n,0,[],[⟨0,0,(Xk6 h w e fs L).length,1-2^n,2^n-1⟩],[]⟩) bs v->v.pl<0->Shp (Xk6 h w e fs L).length v->Xjz (Xk6 h w e fs L) v->v.us=bs.length->bs.length<=900000->
  P (.fz (.tup [.tup [.int h,.int w,.int L,.int n,Xog fs],.str (Xbt bs)]))
abbrev Xka:Stmt:=top 55
theorem Xwt:FnScope ["thing"] ["thing"] (Xae Xka):=by walk_at "S"
abbrev Xgk:Stmt:=top 56
theorem Xrq:FnScope ["thing"] ["thing"] (Xae Xgk):=by walk_at "S"
abbrev Xm8:Stmt:=top 77
theorem Xws:FnScope ["thing","at"] ["thing","at"] (Xae Xm8):=by walk_at "S"
abbrev Xp5:Stmt:=top 80
theorem Xga:FnScope ["picture","ladder","levels","lifts","wave","high","wide","numbers","planes"] ["picture","ladder","levels"] (Xae Xp5):=by walk_at "S"
def trD (q:Int×Int×Int):D:=.tup [.int q.1,.tup [.int q.2.1,.int q.2.2]]
theorem Xxa (Df:DefAt K mg "is_lift" Xka f fd)(B:BltV mg)(KV:KitV K)(Xfe:Ybz K mg "PART_SPANS" (D.tup [.tup [.int 0,.int 1],.tup [.int (-8),.int 8],.tup [.int (-8),.int 8],.tup [.int (-64),.int 64],.tup [.int 0,.int 8]]))(Xcg:Cal P w K mg base "is_number" 1 ["thing"] (spV K 1 Xe9))(Xdp:Cal P w K mg base "holds" 1 ["one","number"] (spV K 2 Xii)):
  Cal P w K mg base "is_lift" 2 ["thing"] (spV K 1 Xpb):=by
 refine CalV.of Df Xwt (by walk_at "b") rfl (λc A o s H E hr=>⟨_,_,(Xag (Xb0 (Xop (Xey (Xcv (Xar Xd2 (by rfl) B.isinstance boot_isinstance (Xaa (pv 0) (Xaa (Xgt (v:=.ty "tuple") (by rfl) B.tuple PyProof.Rows.boot_tuple (by rfl)) Xac))))) (Xi8 (Xbb Xt8 (Xar Xax (by rfl) B.len boot_len (Xaa (pv 0) Xac)) (Xar Xax (by rfl) B.len boot_len (Xaa (Xeh (by rfl) Xfe) Xac)) (Xbf _)))).pt (Xaj (Xaz Xl3)) Xa8)
   (Xaj (Xaz (Xar (Xh9 rfl) (by rfl) B.all boot_all (Xaa (Xd6 rfl (Yhn rfl B.zip (Xaa (pv 0) (Xaa (Xeh (by rfl) Xfe) Xac))) (show BlkScope (Xae Xka) _ from⟨rfl,by decide +kernel,by decide +kernel,by decide +kernel⟩) (N:=["part","span"]) (ix:=[none,none]) (show Xb2 _ _ _ _ from trivial) (λ_ _ _=>(Xvn (n:=2) rfl (Xeg (Xbc (i:=0) (show List.Nodup (["part","span"]:List Str) by decide +kernel) rfl (Or.inl rfl)) (Xeg (Xbc (i:=1) (show List.Nodup (["part","span"]:List Str) by decide +kernel) rfl (Or.inl rfl)) Xqf)))) (λ_ _ _=>(Xsb (Xa6 Xcg (hr.mono (by decide)) (by rfl) (Xaa (pv 0) Xac)) (Xsa (Xa6 Xdp (hr.mono (by decide)) (by rfl) (Xaa (pv 1) (Xaa (pv 0) Xac))))))) Xac))))),
  (Xao (Xcd (Xoo (Xeu (Xoe (Xbl (Xly KV) (Xaf Xad (Xaf (Xap Xp9) Xan))))) (Xa9 (Xaq Xud (Xap (Xbl Xco (Xaf Xad Xan))) (Xap (Xbl Xco (Xaf (Xap Xqa) Xan)))))) (Xa2 (Xa0 Xl2)) Xa7)
   (Xa2 (Xa0 (Xbl Xte (Xaf (Xap (Xby (Xc4 (Ygv (Xab Xai (Xab Xqa Xam))) (Xvd (Xef Xbe (Xef Xbe Xp8))) (Xa0 (Xnf (Xby (Xa1 (Xab Xai Xam))) (Xby (Xa1 (Xab Xai (Xab Xai Xam))))))))) Xan))))),?_⟩)
 rintro ds Pr ⟨ns,rfl,hl,h⟩
 fin2
 by_cases z:ns.length=5
 .rw [if_neg (by rw[z];decide)]
  have ez:List.map (λ(p:D×D)=>D.tup [p.fst,p.snd]) ((ns.map D.int).zip [D.tup [D.int 0,D.int 1],D.tup [D.int (-8),D.int 8],D.tup [D.int (-8),D.int 8],D.tup [D.int (-64),D.int 64],D.tup [D.int 0,D.int 8]])=(ns.zip sp5).map trD:=by
   rw[show [D.tup [D.int 0,D.int 1],D.tup [D.int (-8),D.int 8],D.tup [D.int (-8),D.int 8],D.tup [D.int (-64),D.int 64],D.tup [D.int 0,D.int 8]]=sp5.map λq=>D.tup [D.int q.1,D.int q.2] from rfl,List.zip_map,map_map]
   rfl
  rw[ez]
  have hql:(ns.zip sp5).length<=10000:=by rw[length_zip];lia
  unfold Xsy at h
  rw[decide_eq_true z,Bool.true_and]at h
  generalize ns.zip sp5=qs at h hql
  refine⟨by lia,λi δ ts=>∃o0 o1:Option Sl,δ=[o0,o1]/\ts=(qs.take i).map λq=>.fz (.bl (decide (q.2.1<=q.1) && decide (q.1<=q.2.2))),⟨none,none,rfl,rfl⟩,?_,?_⟩
  .rintro i d δ ts hd ⟨o0,o1,rfl,rfl⟩
   obtain⟨q,hq',rfl⟩:=Ydg hd
   simp only[trD,gT,Xs4,Yaq,gN,length_cons,length_nil,Nat.reduceAdd,true_and,set_cons_succ,set_cons_zero]
   fin2
   refine⟨by rw[length_take];lia,_,rfl,rfl,?_⟩
   show if true=true then _ else _
   rw[if_pos rfl]
   refine⟨_,_,_,rfl,?_⟩
   refine⟨some (Sl.own (OV.fz (D.int q.1))),some (Sl.own (OV.fz (D.tup [D.int q.2.1,D.int q.2.2]))),rfl,?_⟩
   rw[take_add_one,hq',map_append]
   rfl
  .rintro δ ts ⟨o0,o1,rfl,rfl⟩
   fin2
   refine⟨qs.map λq=>decide (q.2.1<=q.1) && decide (q.1<=q.2.2),by rw[take_length,map_map,map_map];rfl,?_⟩
   rw[all_map]
   exact h
 .rw [if_pos (by rw[decide_eq_false (by lia)];rfl)]
  unfold Xsy at h
  rw[decide_eq_false z,Bool.false_and]at h
  exact h
theorem Xsk (Df:DefAt K mg "is_ladder" Xgk f fd)(B:BltV mg)(KV:KitV K)(Xh4:∃t,mg "MOST_LIFTS"=some (.int 6 t))(Xn5:Cal P w K mg base "is_lift" 2 ["thing"] (spV K 1 Xpb)):
  Cal P w K mg base "is_ladder" 3 ["thing"] (spV K 1 Xhm):=by
 refine CalV.of Df Xrq (by walk_at "b") rfl (λc A o s H E hr=>⟨_,_,(Xag (Xb0 (Xop (Xey (Xcv (Xar Xd2 (by rfl) B.isinstance boot_isinstance (Xaa (pv 0) (Xaa (Xgt (v:=.ty "tuple") (by rfl) B.tuple PyProof.Rows.boot_tuple (by rfl)) Xac))))) (Xi8 (Xbb Yc8 (Xar Xax (by rfl) B.len boot_len (Xaa (pv 0) Xac)) (Xau (by rfl) Xh4) (Xbf _)))).pt (Xaj (Xaz Xl3)) Xa8)
   (Xaj (Xaz (Xar (Xh9 rfl) (by rfl) B.all boot_all (Xaa (Xd6 rfl (Xr8 (pv 0)) (show BlkScope (Xae Xgk) _ from⟨rfl,by decide +kernel,by decide +kernel,by decide +kernel⟩) (N:=["lift"]) (ix:=[none]) (show Xb2 _ _ _ _ from trivial) (λ_ _ _=>(Xbc (i:=0) (show List.Nodup (["lift"]:List Str) by decide +kernel) rfl (Or.inl rfl))) (λ_ _ _=>(Xa6 Xn5 (hr.mono (by decide)) (by rfl) (Xaa (pv 0) Xac)))) Xac))))),
  (Xao (Xcd (Xoo (Xeu (Xoe (Xbl (Xly KV) (Xaf Xad (Xaf (Xap Xp9) Xan))))) (Xa9 (Xaq Xhf (Xap (Xbl Xco (Xaf Xad Xan))) (Xap Xah)))) (Xa2 (Xa0 Xl2)) Xa7)
   (Xa2 (Xa0 (Xbl Xte (Xaf (Xap (Xby (Xc4 (Xrx Xai) Xbe (Xa1 (Xab Xai Xam))))) Xan))))),?_⟩)
 rintro ds Pr ⟨lss,rfl,hl,hn,h⟩
 fin2
 by_cases z:lss.length<=6
 .rw [if_neg (by lia)]
  unfold Yb2 at h
  rw[decide_eq_true z,Bool.true_and]at h
  refine Xmu.map lss Yb8 (λns=>.fz (.bl (Xsy ns))) (by lia) (λns hm Q q=>?_) ?_
  .fin2
   exact⟨ns,rfl,hn ns hm,q⟩
  fin2
  refine⟨lss.map Xsy,by simp only[map_map,Function.comp_def,OV.val],?_⟩
  rw[all_map]
  exact h
 .rw [if_pos (by lia)]
  unfold Yb2 at h
  rw[decide_eq_false z,Bool.false_and]at h
  exact h
theorem Xw9 (Df:DefAt K mg "is_part" Xm8 f fd)(B:BltV mg)(KV:KitV K)(Xb7:Ybz K mg "NUMBER_SPANS" (D.tup [.tup [.int 1,.int 64],.tup [.int 1,.int 64],.tup [.int 0,.int 6],.tup [.int 0,.int 4000]]))(Xcg:Cal P w K mg base "is_number" 1 ["thing"] (spV K 1 Xe9))(Xdp:Cal P w K mg base "holds" 1 ["one","number"] (spV K 2 Xii)):
  Cal P w K mg base "is_part" 2 ["thing","at"] (spV K 2 Xkw):=by
 refine CalV.of Df Xws (by walk_at "b") rfl (λc A o s H E hr=>⟨_,_,(Xaj (Xaz (Xsb (Xa6 Xcg (hr.mono (by decide)) (by rfl) (Xaa (pv 0) Xac)) (Xsa (Xa6 Xdp (hr.mono (by decide)) (by rfl) (Xaa (Xba Xbh (Xeh (by rfl) Xb7) (pv 1) (λ_ _=>rfl)) (Xaa (pv 0) Xac))))))),
  (Xa2 (Xa0 (Xnf (Xby (Xa1 (Xab Xai Xam))) (Xby (Xa1 (Xab (Xbo Xbg Xqa Xai) (Xab Xai Xam))))))),?_⟩)
 rintro ds Pr ⟨n,at',p,rfl,hp,h⟩
 fin2
 refine⟨_,rfl,rfl,?_⟩
 show if true=true then _ else _
 rw[if_pos rfl,show [D.tup [D.int 1,D.int 64],D.tup [D.int 1,D.int 64],D.tup [D.int 0,D.int 6],D.tup [D.int 0,D.int 4000]]=spH.map λq=>D.tup [D.int q.1,D.int q.2] from rfl]
 exact⟨_,Xc7 (by rw[getElem?_map,hp];rfl),p.1,p.2,n,rfl,h⟩
theorem Yda {f:Addr}{fd:FuncData}{T:Addr}{tk1:Tok}(Df:DefAtD K mg "coded" Xp5 f fd T #[.none,.int 2 tk1])(B:BltV mg)(KV:KitV K)(Xqz:∃t,mg "LEVELS"=some (.int 2 t))(Xid:Cal P w K mg base "is_picture" 3 ["thing"] (spV K 1 Xj5))(Xdn:Cal P w K mg base "ladder_of" 1 ["name"] (spV K 1 Xhl))(Xdo:Cal P w K mg base "is_ladder" 3 ["thing"] (spV K 1 Xhm))(Xf1:Cal P w K mg base "is_part" 2 ["thing","at"] (spV K 2 Xkw))(Ybt:Cal P w K mg base "laid" 5 ["picture","ladder","levels"] (spV K 3 Xyn))(Xq3:Cal P w K mg base "places" 2 ["high","wide","levels"] (spV K 3 Xre))(Xjv:Cal P w K mg base "planes_of" 2 ["some"] (spV K 1 Xll))(Ybs:Cal P w K mg base "told" 5 ["some","planes"] (spV K 2 Xym)):
  CalD P w K mg base "coded" 6 ["picture","ladder","levels"] (spV K 3 Xu7) [.non,.int 2]:=by
 refine CalVD.of (ds:=[.none,.int 2 tk1]) Df Xga (λ_ _ _ _ _ _ us hl=>match us,hl with | [_,_,_],_=>⟨_,rfl,rfl⟩) (λ_ _ _ _ _ _ us hl=>by have hl':us.length=1:=(by simpa using hl);exact match us,hl' with | [_],_=>⟨_,rfl,rfl⟩) (.cons rfl (.cons ⟨_,rfl⟩ (.nil))) rfl (λc A o s H E hr=>⟨_,_,(Xag (Xb0 (Xey (Xcv (Xa6 Xid (hr.mono (by decide)) (by rfl) (Xaa (pv 0) Xac)))) (Xaj Xmj) Xa8)
   (Xag (Xa4 (i:=3) Xga.nd rfl (Or.inl rfl) (Xqg (Xbb Ylf (pv 1) Xzl (Xbf _)) (Xa6 Xdn (hr.mono (by decide)) (by rfl) (Xaa Xat Xac)) (pv 1)))
   (Xag (Xb0 (Xey (Xcv (Xa6 Xdo (hr.mono (by decide)) (by rfl) (Xaa (pv 3) Xac)))) (Xaj Xmj) Xa8)
   (Xag (Xb0 (Xey (Xcv (Xa6 Xf1 (hr.mono (by decide)) (by rfl) (Xaa (pv 2) (Xaa (Xau (by rfl) Xqz) Xac))))) (Xaj Xmj) Xa8)
   (Xag (Xa4 (i:=4) Xga.nd rfl (Or.inr rfl) (Xa6 Ybt (hr.mono (by decide)) (by rfl) (Xaa (pv 0) (Xaa (pv 3) (Xaa (pv 2) Xac)))))
   (Xag (Xa4 (i:=5) Xga.nd rfl (Or.inl rfl) (Xar Xax (by rfl) B.len boot_len (Xaa (pv 0) Xac)))
   (Xag (Xa4 (i:=6) Xga.nd rfl (Or.inl rfl) (Xar Xax (by rfl) B.len boot_len (Xaa (Xba Xbk (pv 0) Xal (λ_ _=>rfl)) Xac)))
   (Xag (Xk1 (i:=7) Xga.nd rfl (Or.inl rfl) rfl (Xfj (Xa6 Xq3 (hr.mono (by decide)) (by rfl) (Xaa (pv 5) (Xaa (pv 6) (Xaa (pv 2) Xac))))) (show BlkScope (Xae Xp5) _ from⟨rfl,by decide +kernel,by decide +kernel,by decide +kernel⟩) (N:=["i","j","wave"]) (ix:=[none,none,some 4]) (show Xb2 _ _ _ _ from⟨⟨rfl,rfl,.inl rfl⟩,trivial⟩) (λ_ _ _=>(Xvn (n:=2) rfl (Xeg (Xbc (i:=0) (show List.Nodup (["i","j","wave"]:List Str) by decide +kernel) rfl (Or.inl rfl)) (Xeg (Xbc (i:=1) (show List.Nodup (["i","j","wave"]:List Str) by decide +kernel) rfl (Or.inl rfl)) Xqf)))) (λ_ _ _=>(Xba Xbk (Xba Xbk (pv 2) (pv 0) (λ_ _=>rfl)) (pv 1) (λ_ _=>rfl))))
   (Xag (Xa4 (i:=8) Xga.nd rfl (Or.inl rfl) (Xa6 Xjv (hr.mono (by decide)) (by rfl) (Xaa (pv 7) Xac)))
   (Xaj (Xaz (Xbw (Xaa (Xbw (Xaa (pv 5) (Xaa (pv 6) (Xaa (pv 2) (Xaa (pv 8) (Xaa (pv 3) Xac)))))) (Xaa (Xa6 Ybs (hr.mono (by decide)) (by rfl) (Xaa (pv 7) (Xaa (pv 8) Xac))) Xac)))))))))))))),
  (Xao (Xcd (Xeu (Xoe (Xby (Xa1 (Xab Xai Xam))))) Xmf Xa7)
   (Xao (Xa5 (Xa0 (Ygz (Xa9 (Xaq Ylj Xad (Xap Xy5))) (Xby (Xa1 (Xab Xas Xam))) Xai)))
   (Xao (Xcd (Xeu (Xoe (Xby (Xa1 (Xab Xai Xam))))) Xmf Xa7)
   (Xao (Xcd (Xeu (Xoe (Xby (Xa1 (Xab Xai (Xab Xah Xam)))))) Xmf Xa7)
   (Xao (Xa5 (Xa0 (Xby (Xa1 (Xab Xai (Xab Xai (Xab Xai Xam)))))))
   (Xao (Xa5 (Xa0 (Xbl Xco (Xaf Xad Xan))))
   (Xao (Xa5 (Xa0 (Xbl Xco (Xaf (Xca (OpF.b Xb4) Xad (Xap Xah)) Xan))))
   (Xao (Xa5 (Xa0 (Xby (Xc4 (Xgq (Xby (Xa1 (Xab Xai (Xab Xai (Xab Xai Xam)))))) (Xvd (Xef Xbe (Xef Xbe Xp8))) (Xa0 (Xbo Xb4 (Xbo Xb4 Xai Xai) Xai))))))
   (Xao (Xa5 (Xa0 (Xby (Xa1 (Xab Xai Xam)))))
   (Xa2 (Xa0 (Xcp (Xab (Xcp (Xab Xai (Xab Xai (Xab Xai (Xab Xai (Xab Xai Xam)))))) (Xab (Xby (Xa1 (Xab Xai (Xab Xai Xam)))) Xam)))))))))))))),?_⟩)
 rintro ds Pr ⟨h,w,e,fs,L,b,rfl,hl,ok,hL,h0,hh,w0,hw,hb,hxb,hmul,k⟩
 gn_on
 refine⟨_,rfl,Xz1 (by lia) (by lia),?_⟩
 have hpic:Yhm (shI h w e)=true:=by
  unfold shI
  rw[Xzj h0 w0,decide_eq_true hh,decide_eq_true hw]
  rfl
 rw[hpic]
 show if (!true)=true then _ else _
 rw[if_neg (by decide)]
 gp_on
 gn_on
 rw[if_neg (by unfold Xog;exact Bool.false_ne_true)]
 gp_on
 gn_on
 refine⟨fs.map lfN,by rw[Yai],by rw[length_map];lia,(λns hm=>by obtain⟨f,_,rfl⟩:=mem_map.mp hm;show 5<=10000;decide),?_⟩
 rw[Ye4 hl ok]
 show if (!true)=true then _ else _
 rw[if_neg (by decide)]
 gp_on
 gn_on
 refine⟨L,2,(0,6),rfl,rfl,?_⟩
 rw[show Xci (0,6) (L:Int)=true by unfold Xci;simp;lia]
 show if (!true)=true then _ else _
 rw[if_neg (by decide)]
 gp_on
 gn_on
 refine⟨h,w,e,fs,L,rfl,ok,hL,h0,by lia,by lia,?_⟩
 fin2
 rw[Xm2]
 gp_on
 unfold shI
 gn_on
 gp_on
 gn_on
 have hat:atI (shV D.int h w e) 0=some (.lst (tab w λj=>D.int (e 0 j))):=by
  unfold shV
  exact Xle (by decide) (by lia)
 have hlen:(shV D.int h w e).length=h:=by unfold shV;exact Xbr
 refine⟨_,hat,?_⟩
 fin2
 rw[hlen,Xbr]
 gp_on
 gn_on
 refine⟨h,w,L,rfl,⟨by lia,by lia,by lia⟩,?_⟩
 have hpl:=Xjo (h:=h) (w:=w) (n:=L)
 have hmem:∀p∈Xez h w L,(0<=p.1/\p.1<h)/\0<=p.2/\p.2<w:=λp hp=>Xt4 hp
 have hhw:h*w<=4096:=mul_le_mul hh hw
 have hhw0:0<h*w:=mul_pos h0 w0
 fin2
 have ev:List.map OV.val (List.map (λp=>OV.fz (ptD p)) (Xez h w L))=(Xez h w L).map ptD:=by rw[map_map];rfl
 rw[ev]
 unfold Xk6 at k hxb
 generalize hlay:Ydk 0 (λk=>Xb8 fs ((2^k:Nat):Int)) h w L e=ly at k hxb
 generalize Xez h w L=ps at k hpl hmem hxb
 refine⟨λi δ ts=>∃o0 o1:Option Sl,δ=[o0,o1,vD (.lst (shV D.int h w ly))]/\ts=(ps.take i).map λp=>.fz (.int (ly p.1.toNat p.2.toNat)),⟨none,none,rfl,rfl⟩,?_,?_⟩
 .rintro i d δ ts hd ⟨o0,o1,rfl,rfl⟩
  obtain⟨p,hp,rfl⟩:=Ydg hd
  have hi:=(List.getElem?_eq_some_iff.mp hp).1
  obtain⟨⟨p0,p1⟩,p2,p3⟩:=hmem p (mem_of_getElem? hp)
  simp only[ptD,gT,Xs4,Yaq,gN,length_cons,length_nil,Nat.reduceAdd,true_and,set_cons_succ,set_cons_zero]
  fin2
  have hr1:atI (shV D.int h w ly) p.1=some (.lst (tab w λj=>D.int (ly p.1.toNat j))):=by unfold shV;exact Xle p0 p1
  refine⟨by rw[length_take];(clear hl hL hb hmul hlen p0 p1 p2 p3;lia),_,hr1,?_⟩
  refine⟨_,Xle p2 p3,?_⟩
  refine⟨some (Sl.own (OV.fz (D.int p.1))),some (Sl.own (OV.fz (D.int p.2))),rfl,?_⟩
  rw[take_add_one,hp,map_append]
  rfl
 .rintro δ ts ⟨o0,o1,rfl,rfl⟩
  rw[length_map,take_length]
  fin2
  have exs:(List.map OV.val (ps.map λp=>OV.fz (.int (ly p.1.toNat p.2.toNat))))=(ps.map λp=>ly p.1.toNat p.2.toNat).map D.int:=by rw[map_map,map_map];rfl
  rw[exs]
  have hxl:(ps.map λp=>ly p.1.toNat p.2.toNat).length=h*w:=by rw[length_map,hpl]
  generalize (ps.map λp=>ly p.1.toNat p.2.toNat)=xs at k hxl hxb
  gp_on
  gn_on
  refine⟨xs,rfl,by lia,by lia,λn hn1 hn2=>?_⟩
  gp_on
  have hn0:n<=b:=by
   obtain⟨x,hx,e⟩:=hn1
   rw[<- e];exact hxb x hx
  have hlt:∀x∈xs,x.natAbs<2^n:=λx hx=>Nat.lt_of_not_le λz=>by
   have:=Yip.mp z
   have:=hn2 x hx
   lia
  obtain⟨q1,q2,q3,q4⟩:=Xtr xs.length n
  obtain⟨bs,v,t1,t2,t3,t4,t5,t6,t7⟩:=Yb9 (xs:=xs) rfl (by (clear hl hL hb hmul hlen hn0;lia)) (by (clear hl hL hb hmul hlen hn0;lia)) _ _ (Nat.le_refl _) (Xtq (by (clear hl hL hb hmul hlen hn0;lia)) n) (Xwo hlt) (by lia) (by rw[q2,length_nil];lia)
  have hbs:bs.length<=900000:=by
   have:3*xs.length*n<=3*(h*w)*b:=by rw[hxl];exact Nat.mul_le_mul_left _ hn0
   clear hl hL hlen hpl;lia
  fin2
  refine⟨xs,n,bs,rfl,by lia,by lia,hbs,t1,?_⟩
  exact k n bs v hn1 hn2 hn0 t1 t2 t3 t4 t5 (by rw[t7,q3];(clear hl hlen hpl t3 t7;lia)) hbs
theorem Yh4 (ok:∀f∈fs,f.Ok){w:Nat}(hb:6<=b){e:Nat->Nat->Int}(he:∀i j,-2^b<=e i j/\e i j<=2^b)(L:Nat):∀x∈Xk6 h w e fs L,ibN x<=b+10*fs.length*L+1:=λx hx=>by
 obtain⟨p,_,rfl⟩:=mem_map.mp hx
 have h1:=Ye3 ok (h:=h) (w:=w) hb he L p.1.toNat p.2.toNat
 have h3:=Ylc (b+10*fs.length*L)
 exact Yl0 (by omega) (by omega)
abbrev Xgj:Stmt:=top 99
theorem Xon:FnScope ["_law_script","_law_k"] ["_law_script","_law_k"] (Xae Xgj):=by walk_at "S"
def Xiz:DSp:=λds P=>∃(ns:List Int) (k:Int),ds=[.lst (ns.map .int),.int k]/\0<=k/\P (.fz (.int (ns.getD k.toNat 0)))
theorem Xoy (Df:DefAt K mg "_law_cell_at" Xgj f fd)(B:BltV mg)(KV:KitV K):
  Cal P w K mg base "_law_cell_at" 1 ["_law_script","_law_k"] (spV K 2 Xiz):=by
 refine CalV.of Df Xon (by walk_at "b") rfl (λc A o s H E hr=>⟨_,_,(Xag (Xb0 (Xbb Xt9 (pv 1) (Xar Xax (by rfl) B.len boot_len (Xaa (pv 0) Xac)) (Xbf _)) (Xaj (Xaz (Xba Xbk (pv 0) (pv 1) (λ_ _=>rfl)))) Xa8)
   (Xaj (Xaz Xal))),
  (Xao (Xcd (Xa9 (Xaq Xhf Xad (Xap (Xbl Xco (Xaf Xad Xan))))) (Xa2 (Xa0 (Xbo Xb4 Xai Xai))) Xa7)
   (Xa2 (Xa0 Xah))),?_⟩)
 rintro ds Pr ⟨ns,k,rfl,h0,q⟩
 fin2
 split
 .rename_i h
  exact⟨_,Xha h0 h,q⟩
 .rename_i h
  have e:ns.getD k.toNat 0=0:=by
   have hk:ns.length<=k.toNat:=by lia
   simp[List.getD,getElem?_eq_none hk]
  rw[e]at q
  exact q
abbrev hdD (h w L n:Nat)(fs:List Lf):D:=.tup [.int h,.int w,.int L,.int n,Xog fs]
def Xo9:DSp:=λds P=>∃(h w n:Nat) (c l:D) (bs:List Bool) (v:Wk),ds=[.tup [.int h,.int w,c,.int n,l],.str (Xbt bs)]/\h<=100/\n<=5000/\Fol (Wk.turn ⟨n,0,[],[⟨0,0,h*w,1-2^n,2^n-1⟩],[]⟩) bs v/\P (.ob none "Walk" Xbd v.ts)
abbrev Xm7:Stmt:=top 79
theorem Xwq:FnScope ["head","bits"] ["head","bits"] (Xae Xm7):=by walk_at "S"
theorem Xw7 (Df:DefAt K mg "walk_of" Xm7 f fd)(B:BltV mg)(KV:KitV K)(Xqx:∃t,mg "PLANES"=some (.int 3 t))(Yay:∃t,mg "HIGH"=some (.int 0 t))(Yaw:∃t,mg "WIDE"=some (.int 1 t))(Xld:Cal P w K mg base "followed" 6 ["bits","many","planes"] (spV K 3 Xm1)):
  Cal P w K mg base "walk_of" 7 ["head","bits"] (spV K 2 Xo9):=by
 refine CalV.of Df Xwq (by walk_at "b") rfl (λc A o s H E hr=>⟨_,_,(Xaj (Xaz (Xa6 Xld (hr.mono (by decide)) (by rfl) (Xaa (pv 1) (Xaa (Xaw Xkk (Xba Xbh (pv 0) (Xau (by rfl) Yay) (λ_ _=>rfl)) (Xba Xbh (pv 0) (Xau (by rfl) Yaw) (λ_ _=>rfl))) (Xaa (Xba Xbh (pv 0) (Xau (by rfl) Xqx) (λ_ _=>rfl)) Xac)))))),
  (Xa2 (Xa1 (Xab Xai (Xab (Xaq Xc5 (Xca (OpF.b Xbg) Xad (Xap Xah)) (Xca (OpF.b Xbg) Xad (Xap Xah))) (Xab (Xbo Xbg Xai Xah) Xam))))),?_⟩)
 rintro ds Pr ⟨h,w,n,c,l,bs,v,rfl,hh,hn,F,k⟩
 fin2
 exact⟨.inl ⟨by lia,by lia⟩,bs,_,n,v,rfl,hn,F,k⟩
abbrev wk0 (m n:Nat):Wk:=Wk.turn ⟨n,0,[],[⟨0,0,m,1-2^n,2^n-1⟩],[]⟩
def Yb5 (h w L n:Nat)(fs:List Lf):Prop:=(1<=h/\h<=64)/\(1<=w/\w<=64)/\L<=6/\n<=4000/\fs.length<=6/\∀f∈fs,f.Ok
theorem Ypt (m:Nat):Xhx 0 (m:Int) 4=(m+3) / 4:=Xlt λi=>by rw[Xqb (by decide)];lia
theorem Xig:∀bs:List Bool,Xbt bs=bT bs
 | []=>by rw[Xyk];rfl
 |b::bs=>by
  rw[Xfs,Xig bs,show Xtg b=tx [bch b] by cases b<;>decide +kernel,Xn9]
  rfl
theorem Xx2 (hn:n.natAbs<=9999)(d:Dg n.natAbs l):Yjc (tx (if n<0 then 45::l else l))=false/\PySem.intText? (tx (if n<0 then 45::l else l))=some n/\(tx (if n<0 then 45::l else l)).length<=5:=by
 have hl:=d.len 3 (by lia)
 have h0:=d.ne
 have hdig:=d.dig
 have hval:=d.val
 cases l with
 |nil=>exact absurd h0 (lt_irrefl _)
 |cons c cs=>
  have hc:=hdig c mem_cons_self
  have hz:c=48->n=0/\cs=[]:=λz=>by
   subst z
   have:=d.zero rfl
   exact⟨by lia,(List.cons.inj this.2).2⟩
  have hst:Txt.stripChars (tx (c::cs)) (Str.ofString "0123456789")=Str.ofString "":=by
   exact Xyj λx hx=>Ymb (hdig x hx)
  rw[length_cons]at hl
  by_cases hneg:n<0
  .rw [if_pos hneg]
   refine⟨?_,?_,by rw[Xbv,length_cons,length_cons];lia⟩
   .unfold Yjc
    rw[Xxp,hst,Xbv,length_cons,Xx0,Xih,decide_eq_false (show ¬ c=48 from λz=>by have:=(hz z).1;lia),decide_eq_true (show (1:Int)<=((cs.length+1:Nat):Int) by lia),decide_eq_true (show ((cs.length+1:Nat):Int)<=4 by lia)]
    simp
   .rw [PySem.intText_neg (cs:=c::cs) rfl hdig (by simp) (by rw[Xbv,length_cons,length_cons];lia)]
    congr 1
    lia
  .rw [if_neg hneg]
   refine⟨?_,?_,by rw[Xbv,length_cons];lia⟩
   .unfold Yjc
    rw[Xxo (by lia),hst,Xbv,length_cons,Xx0,Xih,decide_eq_true (show (1:Int)<=((cs.length+1:Nat):Int) by lia),decide_eq_true (show ((cs.length+1:Nat):Int)<=4 by lia)]
    by_cases z:c=48
    .rw [(hz z).2]
     simp
    .rw [decide_eq_false z]
     simp
   .rw [PySem.intText_digits hdig (by simp) (by rw[Xbv,length_cons];lia)]
    congr 1
    rw[ hval]
    lia
abbrev Xb6 (n:Int):Str:=Str.ofString (toString n)
abbrev Xjq (f:Lf):Str:=Str.join (tx [44]) [Xb6 f.h,Xb6 f.l,Xb6 f.r,Xb6 f.a,Xb6 f.s]
def Xl8 (fs:List Lf):Str:=if fs=[] then tx [45] else Str.join (tx [59]) (fs.map Xjq)
def wrT (h w L n:Nat)(fs:List Lf)(bs:List Bool):List Str:=[Str.ofString "liftwave",Xb6 h,Xb6 w,Xb6 L,Xb6 n,Xl8 fs,lT (pk bs)]
theorem Xq0:Str.ofString ","=tx [44]:=by decide +kernel
theorem Xtt:Str.ofString ";"=tx [59]:=by decide +kernel
theorem Xdz:Str.ofString " "=tx [32]:=by decide +kernel
theorem Xfn (x:Str)(ys:List Str):Txt.join x ys=Str.join x ys:=PySem.StrLaws.glued_eq_join x ys
theorem Xcn (h:n.natAbs<=9999):(Xb6 n).length<=5:=by
 obtain⟨l,hl⟩:=Yh5.ex n
 rw[show Xb6 n=tx l from hl.str,Xbv]
 obtain⟨r,d,rfl⟩:=hl
 have:=d.len 3 (by lia)
 split
 .rw [length_cons]
  lia
 .lia
theorem Xcw (h1:c≠45)(h2:c<48∨57<c):c∉(Xb6 n).cps.toList:=by
 obtain⟨l,hl⟩:=Yh5.ex n
 rw[show Xb6 n=tx l from hl.str]
 obtain⟨r,d,rfl⟩:=hl
 intro hc
 have hd:c∈r->False:=λz=>by have:=d.dig c z;lia
 split at hc
 .rcases mem_cons.mp (show c∈45::r from hc) with z |z
  .exact h1 z
  .exact hd z
 .exact hd hc
theorem Xpn (x:Str)(ys:List Str)(b:Nat)(h:∀y∈ys,y.length<=b):(Str.join x ys).length<=ys.length*(b+x.length):=by
 refine le_trans (PySem.StrLaws.join_length_le x ys) ?_
 have:(ys.map (·.length)).sum<=ys.length*b:=by
  induction ys with
  |nil=>exact zero_le _
  |cons y r ih=>
   have h1:=h y mem_cons_self
   have h2:=ih λz hz=>h z (mem_cons_of_mem _ hz)
   rw[map_cons,sum_cons,length_cons,succ_mul]
   lia
 rw[mul_add]
 omega
theorem Ykb {ys:List Str}{b:Nat}(h:∀y∈ys,y.length<=b):(ys.map (·.length)).sum<=ys.length*b:=by
 induction ys with
 |nil=>exact zero_le _
 |cons y r ih=>
  have h1:=h y mem_cons_self
  have h2:=ih λz hz=>h z (mem_cons_of_mem _ hz)
  rw[map_cons,sum_cons,length_cons,succ_mul]
  lia
theorem Xqk {f:Lf}(ok:f.Ok):∀x∈[f.h,f.l,f.r,f.a,f.s],x.natAbs<=999:=λx hx=>by
 have h1:=ok.h
 have h2:=ok.l
 have h3:=ok.r
 have h4:=ok.a
 have h5:=ok.s
 simp only[mem_cons,not_mem_nil,or_false]at hx
 rcases hx with rfl |rfl |rfl |rfl |rfl<;>lia
theorem Xvt {f:Lf}(ok:f.Ok):(Xjq f).length<=30:=by
 refine le_trans (Xpn _ _ 5 (λx hx=>?_)) (show 5*(5+1)<=30 by decide)
 obtain⟨n,hn,rfl⟩:=mem_map.mp (show x∈[f.h,f.l,f.r,f.a,f.s].map Xb6 from hx)
 exact Xcn (le_trans (Xqk ok n hn) (by decide))
theorem Yaa (h:x<=9999):Nat.log2 x<14:=by
 by_cases z:x=0
 .rw [z]
  decide
 .exact (Nat.log2_lt z).mpr (show x<2^14 by lia)
theorem Ye7 {c d:Nat}:∀{ws:List (List Nat)},c∈jn d ws->c=d∨∃w∈ws,c∈w
 | [],h=>by cases h
 | [w],h=>.inr ⟨w,mem_cons_self,h⟩
 |w :: v::ws,h=>by
  rcases mem_append.mp (show c∈w++d::jn d (v::ws) from h) with z |z
  .exact .inr ⟨w,mem_cons_self,z⟩
  .rcases mem_cons.mp z with y |y
   .exact .inl y
   .rcases Ye7 y with x | ⟨u,hu,x⟩
    .exact .inl x
    .exact .inr ⟨u,mem_cons_of_mem _ hu,x⟩
theorem Xs1 (h1:c≠d)(h2:∀w∈ws,c∉w.cps.toList):c∉(Str.join (tx [d]) ws).cps.toList:=λz=>by
 rw[show tx [d]=⟨#[d]⟩ from rfl,Xjr]at z
 rcases Ye7 z with y | ⟨w,hw,y⟩
 .exact h1 y
 .obtain ⟨x,hx,rfl⟩:=mem_map.mp hw
  exact h2 x hx y
theorem Xsw (f:Lf)(h:c≠45)(h2:c<44∨57<c):c∉(Xjq f).cps.toList:=
 Xs1 (by lia) λw hw=>by
  obtain⟨n,hn,rfl⟩:=mem_map.mp (show w∈[f.h,f.l,f.r,f.a,f.s].map Xb6 from hw)
  exact Xcw h (by lia)
theorem Xxj (f:Lf):44∈(Xjq f).cps.toList:=by
 unfold Xjq
 rw[ Xjr]
 exact mem_append.mpr (.inr mem_cons_self)
theorem Yfa {c d:Nat}:∀{ws:List (List Nat)} {w:List Nat},w∈ws->c∈w->c∈jn d ws
 | [],_,h,_=>by cases h
 | [w],_,h,hc=>by rw[mem_singleton.mp h]at hc;exact hc
 |w::v::ws,u,h,hc=>by
  rcases mem_cons.mp h with rfl |z
  .exact mem_append.mpr (.inl hc)
  .exact mem_append.mpr (.inr (mem_cons_of_mem _ (Yfa z hc)))
theorem Ydl (z:fs≠[]):Xl8 fs≠Str.ofString "-":=λq=>by
 rw[Xl8,if_neg z,Xmo]at q
 have e:=congrArg (λx:Str=>x.cps.toList) q
 simp only[ Xjr]at e
 obtain⟨f,r,rfl⟩:=List.exists_cons_of_ne_nil z
 have h:44∈jn 59 (((f::r).map Xjq).map λx=>x.cps.toList):=Yfa (mem_map.mpr ⟨Xjq f,mem_map.mpr ⟨f,mem_cons_self,rfl⟩,rfl⟩) (Xxj f)
 rw[e]at h
 simp at h
theorem Xvw (fs:List Lf)(h:c≠45)(h2:c<44∨59<c):c∉(Xl8 fs).cps.toList:=by
 unfold Xl8
 split
 .intro z
  simp at z
  exact h z
 .exact Xs1 (by lia) λw hw=>by
   obtain⟨f,hf,rfl⟩:=mem_map.mp hw
   exact Xsw f h (by lia)
theorem Yah (hl:fs.length<=6)(ok:∀f∈fs,f.Ok):(Xl8 fs).length<=186:=by
 unfold Xl8
 split
 .decide
 .have:=Xpn (tx [59]) (fs.map Xjq) 30 (λy hy=>by
   obtain⟨f,hf,rfl⟩:=mem_map.mp hy
   exact Xvt (ok f hf))
  rw[length_map,show (tx [59]).length=1 from rfl]at this
  lia
theorem Xuo:∀bs:List Bool,(pk bs).flatMap fr=fl bs
 |a::b::c::d::r=>by
  show (wor a b c d::pk r).flatMap fr=_
  rw[flatMap_cons,Xuo r]
  unfold fl
  rw[show (a::b::c::d::r).length=r.length+4 from rfl,show (r.length+4)%4=r.length%4 by lia,show fr (wor a b c d)=[a,b,c,d] by cases a<;>cases b<;>cases c<;>cases d<;>rfl]
  rfl
 | []=>rfl
 | [a]=>by cases a<;>rfl
 | [a,b]=>by cases a<;>cases b<;>rfl
 | [a,b,c]=>by cases a<;>cases b<;>cases c<;>rfl
theorem Xqe (bs:List Bool)(h:bs.length<=900000):(pk bs).length<=225000:=by
 rw[Xzi]
 omega
theorem Xx1 {w:Nat}(hd:Yb5 h w L n fs)(hl:bs.length<=900000):((wrT h w L n fs bs).map (·.length)).sum<=8+(5+(5+(5+(5+(186+(225000+0)))))):=by
 obtain⟨⟨h1,h2⟩,⟨w1,w2⟩,hL,hn,hf,ok⟩:=hd
 have e1:=Xcn (n:=h) (by lia)
 have e2:=Xcn (n:=w) (by lia)
 have e3:=Xcn (n:=L) (by lia)
 have e4:=Xcn (n:=n) (by lia)
 have e5:=Yah hf ok
 have e6:(lT (pk bs)).length<=225000:=by rw[Xbv,length_map];exact Xqe bs hl
 exact add_le_add (by decide +kernel) (add_le_add e1 (add_le_add e2 (add_le_add e3 (add_le_add e4 (add_le_add e5 (add_le_add e6 (Nat.le_refl 0)))))))
theorem Xuw (h w L n:Nat)(fs:List Lf)(bs:List Bool):Txt.split (Str.join (tx [32]) (wrT h w L n fs bs)) (Str.ofString " ")=wrT h w L n fs bs:=by
 rw[Xdz]
 refine Xf3 32 _ (by simp[wrT]) (λx hx=>?_)
 unfold wrT at hx
 simp only[mem_cons,not_mem_nil,or_false]at hx
 rcases hx with rfl |rfl |rfl |rfl |rfl |rfl |rfl
 .decide +kernel
 .exact Xcw (by decide) (.inl (by decide))
 .exact Xcw (by decide) (.inl (by decide))
 .exact Xcw (by decide) (.inl (by decide))
 .exact Xcw (by decide) (.inl (by decide))
 .exact Xvw fs (by decide) (.inl (by decide))
 .intro z
  obtain⟨n,hn,e⟩:=mem_map.mp (show 32∈(pk bs).map (97+·) from z)
  lia
def Xrf:DSp:=λds P=>∃bs:List Bool,ds=[.str (bT bs)]/\bs.length<=900000/\P (.fz (.str (lT (pk bs))))
def Xhj:DSp:=λds P=>∃f:Lf,ds=[lfD f]/\f.Ok/\P (.fz (.str (Xjq f)))
def Xft:DSp:=λds P=>∃fs:List Lf,ds=[Xog fs]/\fs.length<=6/\(∀f∈fs,f.Ok)/\P (.fz (.str (Xl8 fs)))
def Xo8:DSp:=λds P=>∃(h w L n:Nat) (fs:List Lf) (bs:List Bool),ds=[hdD h w L n fs,.str (Xbt bs)]/\Yb5 h w L n fs/\bs.length<=900000/\P (.fz (.str (Str.join (tx [32]) (wrT h w L n fs bs))))
def rn (x:Str):Option (Option Int):=if Yjc x=true then some none else (PySem.intText? x).map some
def Xir {α:Type}(f:Str->Option (Option α)):List Str->Option (Option (List α))
 | []=>some (some [])
 |w::ws=>match f w with
  |none=>none
  |some none=>some none
  |some (some a)=>(Xir f ws).map (Option.map (a::·))
def rl (x:Str):Option (Option (List Int)):=Xir rn (Txt.split x (Str.ofString ","))
def Xy9 (x:Str):Option (Option (List (List Int))):=if x=Str.ofString "-" then some (some []) else Xir rl (Txt.split x (Str.ofString ";"))
def Yjq {α:Type}(r:Option α)(P:α->Prop)(X:Str->Prop):Prop:=match r with
 |some a=>P a
 |none=>X "NoText"
def Xpd:Xwh:=λds P X=>∃c:Nat,ds=[.str (tx [c])]/\if 97<=c/\c<=112 then P (.fz (.str (bT (fr (c-97))))) else X "NoText"
def Xm0:Xwh:=λds P X=>∃cs:List Nat,ds=[.str (tx cs)]/\cs.length<=240000/\if (∀c∈cs,97<=c/\c<=112) then P (.fz (.str (bT (cs.flatMap λc=>fr (c-97))))) else X "NoText"
def Xdu:Xwh:=λds P X=>∃(x:Str) (r:Option Int),ds=[.str x]/\x.length<=600/\rn x=some r/\Yjq r (λn=>P (.fz (.int n))) X
def Xlj:Xwh:=λds P X=>∃(x:Str) (r:Option (List Int)),ds=[.str x]/\x.length<=600/\rl x=some r/\Yjq r (λns=>P (.fz (Yb8 ns))) X
def Xiu:Xwh:=λds P X=>∃(x:Str) (r:Option (List (List Int))),ds=[.str x]/\x.length<=600/\Xy9 x=some r/\Yjq r (λlss=>P (.fz (.tup (lss.map Yb8)))) X
def Xl9 (a b c d:Int)(lss:List (List Int)):Bool:=Xci (1,64) a && (Xci (1,64) b && (Xci (0,6) c && (Xci (0,4000) d && Yb2 lss)))
abbrev hdI (a b c d:Int)(lss:List (List Int)):D:=.tup [.int a,.int b,.int c,.int d,.tup (lss.map Yb8)]
def Xpc:DSp:=λds P=>∃(a b c d:Int) (lss:List (List Int)),ds=[hdI a b c d lss]/\lss.length<=10000/\(∀ns∈lss,ns.length<=10000)/\P (.fz (.bl (Xl9 a b c d lss)))
def Rh (w1 w2 w3 w4 w5:Str)(P:Int->Int->Int->Int->List (List Int)->Prop)(X:Prop):Prop:=(Xir rn [w1,w2,w3,w4]=some none/\X)∨∃a b c d,Xir rn [w1,w2,w3,w4]=some (some [a,b,c,d])/\((Xy9 w5=some none/\X)∨∃lss,Xy9 w5=some (some lss)/\if Xl9 a b c d lss=true then P a b c d lss else X)
def Xlk:Xwh:=λds P X=>∃w0 w1 w2 w3 w4 w5 w6:Str,ds=[.lst ([w0,w1,w2,w3,w4,w5,w6].map D.str)]/\(∀w∈[w1,w2,w3,w4,w5],w.length<=600)/\Rh w1 w2 w3 w4 w5 (λa b c d lss=>P (.fz (hdI a b c d lss))) (X "NoText")
theorem Xku {α:Type}{f:Str->Option (Option α)}{g:α->OV}{sp:Xwh}{Xc:Str->Prop}{P:OV->Prop}{ws:List Str}(hl:ws.length<=100000)(hsp:∀w∈ws,∀(Q:OV->Prop) r,f w=some r->Yjq r (λa=>Q (g a)) Xc->sp [.str w] Q Xc){r:Option (List α)}(hr:Xir f ws=some r)(k:Yjq r (λas=>P (.nl (as.map g))) Xc):
  Yol (gN 0) (Ybl (dV 0) Ymm) 1 sp Xc (ws.map D.str) [none] P:=by
 refine⟨λi δ ts=>∃(o:Option Sl) (as:List α),δ=[o]/\ts=as.map g/\as.length=i/\i<=ws.length/\Xir f ws=(Xir f (ws.drop i)).map (Option.map (as++·)),⟨none,[],rfl,rfl,rfl,zero_le _,?_⟩,?_,?_⟩
 .rw [drop_zero]
  cases Xir f ws with
  |none=>rfl
  |some x=>cases x<;>rfl
 .rintro i d δ ts hd ⟨o,as,rfl,rfl,hi,hil,e⟩
  obtain⟨w,hw,rfl⟩:=Ydg hd
  obtain⟨hlt,hwi⟩:=List.getElem?_eq_some_iff.mp hw
  refine⟨by rw[length_map];lia,?_⟩
  fin2
  rw[List.drop_eq_getElem_cons hlt,hwi]at e
  cases hf:f w with
  |none=>
   rw[show Xir f (w::ws.drop (i+1))=none by unfold Xir;rw[hf]]at e
   rw[hr]at e
   cases e
  |some r'=>
   refine hsp w (hwi▸getElem_mem hlt) _ r' hf ?_
   cases r' with
   |none=>
    rw[show Xir f (w::ws.drop (i+1))=some none by unfold Xir;rw[hf]]at e
    rw[hr]at e
    cases e
    exact k
   |some a=>
    refine⟨_,as++[a],rfl,by rw[map_append];rfl,by rw[length_append,hi];rfl,hlt,?_⟩
    rw[show Xir f (w::ws.drop (i+1))=(Xir f (ws.drop (i+1))).map (Option.map (a::·)) by rw[Xir,hf]]at e
    rw[e]
    cases Xir f (ws.drop (i+1)) with
    |none=>rfl
    |some x=>
     cases x with
     |none=>rfl
     |some y=>simp
 .rintro δ ts ⟨o,as,rfl,rfl,hi,hil,e⟩
  rw[length_map,drop_length]at e
  rw[hr]at e
  cases e
  rw[show Option.map (as++·) (some ([]:List α))=some as by simp]at k
  exact k
theorem Ye8 {c:Nat}:∀{ws:List (List Nat)} {w:List Nat},w∈ws->w.length<=(jn c ws).length
 | [],_,h=>by cases h
 | [w],_,h=>by rw[mem_singleton.mp h];exact Nat.le_refl _
 |w :: v::ws,u,h=>by
  show u.length<=(w++c::jn c (v::ws)).length
  rw[length_append,length_cons]
  rcases mem_cons.mp h with rfl |z
  .lia
  .have:=Ye8 (c:=c) z
   lia
theorem Xqi {w:Str}(h:w∈Txt.split x (tx [c])):w.length<=x.length:=by
 have e1:=congrArg (λx:Str=>x.cps.toList) (PySem.StrLaws.join_split x ⟨#[c]⟩)
 simp only[Xjr]at e1
 have:=Ye8 (c:=c) (mem_map.mpr ⟨w,h,rfl⟩:w.cps.toList∈(Txt.split x ⟨#[c]⟩).map λx=>x.cps.toList)
 rw[e1,length_toList]at this
 exact this
theorem Xv6 {c:Nat}:∀{ws:List (List Nat)},ws≠[]->(∀w∈ws,c∉w)->(jn c ws).count c+1=ws.length
 | [],h,_=>absurd rfl h
 | [w],_,h=>by
  show w.count c+1=1
  rw[List.count_eq_zero.mpr (h w mem_cons_self)]
 |w::v::ws,_,h=>by
  show (w++c::jn c (v::ws)).count c+1=ws.length+1+1
  rw[List.count_append,List.count_cons_self,List.count_eq_zero.mpr (h w mem_cons_self)]
  have:=Xv6 (ws:=v::ws) (by simp) (λx hx=>h x (mem_cons_of_mem _ hx))
  rw[length_cons]at this
  lia
theorem Xyl (c:Nat)(s:Str):(Txt.split s ⟨#[c]⟩).length=s.cps.toList.count c+1:=by
 have e1:=PySem.StrLaws.join_split s ⟨#[c]⟩
 have e2:=PySem.StrLaws.split_free s c
 have hp:Txt.split s ⟨#[c]⟩≠[]:=λz=>by
  have e3:=e1
  rw[z]at e3
  have e4:Txt.split s ⟨#[c]⟩=[s]:=if_pos (by
   rw[or_eq_true]
   exact .inl (decide_eq_true (by rw[<- e3];exact Nat.zero_lt_one)))
  rw[e4]at z
  cases z
 generalize Txt.split s ⟨#[c]⟩=ps at e1 e2 hp
 have e4:=congrArg (λx:Str=>x.cps.toList) e1
 simp only[Xjr]at e4
 have:=Xv6 (ws:=ps.map λx=>x.cps.toList) (by simpa using hp) (λw hw=>by obtain⟨x,hx,rfl⟩:=mem_map.mp hw;exact e2 x hx)
 rw[e4,length_map]at this
 omega
theorem Xki (x:Str)(c:Nat)(h:x.length<=600):(Txt.split x (tx [c])).length<=601:=by
 show (Txt.split x ⟨#[c]⟩).length<=601
 rw[Xyl]
 have:=List.count_le_length (a:=c) (l:=x.cps.toList)
 rw[length_toList]at this
 have h':x.cps.size<=600:=h
 omega
theorem Xq7 {α:Type}{f:Str->Option (Option α)}:∀{ws:List Str} {as:List α},Xir f ws=some (some as)->as.length=ws.length
 | [],as,h=>by cases h;rfl
 |w :: ws,as,h=>by
  unfold Xir at h
  split at h
  .cases h
  .cases h
  .cases hr:Xir f ws with
   |none=>rw[hr]at h;cases h
   |some y=>
    cases y with
    |none=>rw[hr]at h;cases h
    |some z=>
     rw[hr]at h
     cases h
     rw[length_cons,length_cons,Xq7 hr]
theorem Xwf {α:Type}{f:Str->Option (Option α)}:∀{ws:List Str} {as:List α} {a:α},Xir f ws=some (some as)->a∈as->∃w∈ws,f w=some (some a)
 | [],as,a,h,m=>by cases h;cases m
 |w :: ws,as,a,h,m=>by
  unfold Xir at h
  split at h
  .cases h
  .cases h
  .rename_i b hb
   cases hr:Xir f ws with
   |none=>rw[hr]at h;cases h
   |some y=>
    cases y with
    |none=>rw[hr]at h;cases h
    |some z=>
     rw[hr]at h
     cases h
     rcases mem_cons.mp m with rfl |m
     .exact ⟨w,mem_cons_self,hb⟩
     .obtain ⟨v,hv,e⟩:=Xwf hr m
      exact⟨v,mem_cons_of_mem _ hv,e⟩
abbrev Xkb:Stmt:=top 78
theorem Xwu:FnScope ["thing"] ["thing"] (Xae Xkb):=by walk_at "S"
theorem Xxb (Df:DefAt K mg "is_head" Xkb f fd)(B:BltV mg)(KV:KitV K)(Xgx:∃t,mg "LADDER"=some (.int 4 t))(Xb7:Ybz K mg "NUMBER_SPANS" (D.tup [.tup [.int 1,.int 64],.tup [.int 1,.int 64],.tup [.int 0,.int 6],.tup [.int 0,.int 4000]]))(Xf1:Cal P w K mg base "is_part" 2 ["thing","at"] (spV K 2 Xkw))(Xdo:Cal P w K mg base "is_ladder" 3 ["thing"] (spV K 1 Xhm)):
  Cal P w K mg base "is_head" 4 ["thing"] (spV K 1 Xpc):=by
 refine CalV.of Df Xwu (by walk_at "b") rfl (λc A o s H E hr=>⟨_,_,(Xag (Xb0 (Xop (Xey (Xcv (Xar Xd2 (by rfl) B.isinstance boot_isinstance (Xaa (pv 0) (Xaa (Xgt (v:=.ty "tuple") (by rfl) B.tuple PyProof.Rows.boot_tuple (by rfl)) Xac))))) (Xi8 (Xbb Xt8 (Xar Xax (by rfl) B.len boot_len (Xaa (pv 0) Xac)) (Xaw Xdj (Xar Xax (by rfl) B.len boot_len (Xaa (Xeh (by rfl) Xb7) Xac)) Xal) (Xbf _)))).pt (Xaj (Xaz Xl3)) Xa8)
   (Xaj (Xaz (Xsb (Xar (Xh9 rfl) (by rfl) B.all boot_all (Xaa (Xd6 rfl (Xde (by rfl) (by exact B.range) (Xaa (Xar Xax (by rfl) B.len boot_len (Xaa (Xeh (by rfl) Xb7) Xac)) Xac)) (show BlkScope (Xae Xkb) _ from⟨rfl,by decide +kernel,by decide +kernel,by decide +kernel⟩) (N:=["at","thing"]) (ix:=[none,some 0]) (show Xb2 _ _ _ _ from⟨⟨rfl,rfl,.inl rfl⟩,trivial⟩) (λ_ _ _=>(Xbc (i:=0) (show List.Nodup (["at","thing"]:List Str) by decide +kernel) rfl (Or.inl rfl))) (λ_ _ _=>(Xa6 Xf1 (hr.mono (by decide)) (by rfl) (Xaa (Xba Xbh (pv 1) (pv 0) (λ_ _=>rfl)) (Xaa (pv 0) Xac))))) Xac)) (Xsa (Xa6 Xdo (hr.mono (by decide)) (by rfl) (Xaa (Xba Xbh (pv 0) (Xau (by rfl) Xgx) (λ_ _=>rfl)) Xac))))))),
  (Xao (Xcd (Xoo (Xeu (Xoe (Xbl (Xly KV) (Xaf Xad (Xaf (Xap Xp9) Xan))))) (Xa9 (Xaq Xud (Xap (Xbl Xco (Xaf Xad Xan))) (Xap (Xaq Xcl (Xap (Xbl Xco (Xaf (Xap Xqa) Xan))) (Xap Xah)))))) (Xa2 (Xa0 Xl2)) Xa7)
   (Xa2 (Xa0 (Xnf (Xbl Xte (Xaf (Xap (Xby (Xc4 (Xgp (Xaf (Xap (Xbl Xco (Xaf (Xap Xqa) Xan))) Xan)) Xbe (Xa1 (Xab (Xbo Xbg Xai Xai) (Xab Xai Xam)))))) Xan)) (Xby (Xa1 (Xab (Xbo Xbg Xai Xah) Xam))))))),?_⟩)
 rintro ds Pr ⟨a,b,c,d,lss,rfl,hl,hn,k⟩
 fin2
 rw[if_neg (by simp)]
 refine⟨⟨by decide,by decide⟩,?_⟩
 refine Xmu.map [(0:Int),1,2,3] D.int (λi=>.fz (.bl (if i=0 then Xci (1,64) a else if i=1 then Xci (1,64) b else if i=2 then Xci (0,6) c else Xci (0,4000) d))) (by decide) (λx hx Q q=>?_) ?_
 .fin2
  simp only[mem_cons,not_mem_nil,or_false]at hx
  rcases hx with rfl |rfl |rfl |rfl
  .exact ⟨_,rfl,a,0,_,rfl,rfl,q⟩
  .exact ⟨_,rfl,b,1,_,rfl,rfl,q⟩
  .exact ⟨_,rfl,c,2,_,rfl,rfl,q⟩
  .exact ⟨_,rfl,d,3,_,rfl,rfl,q⟩
 refine⟨[Xci (1,64) a,Xci (1,64) b,Xci (0,6) c,Xci (0,4000) d],rfl,?_⟩
 unfold Xl9 at k
 rw[show [Xci (1,64) a,Xci (1,64) b,Xci (0,6) c,Xci (0,4000) d].all id=(Xci (1,64) a && (Xci (1,64) b && (Xci (0,6) c && Xci (0,4000) d))) by simp]
 cases h1:Xci (1,64) a && (Xci (1,64) b && (Xci (0,6) c && Xci (0,4000) d)) with
 |true=>
  rw[if_pos rfl]
  simp only[and_eq_true]at h1
  rw[h1.1,h1.2.1,h1.2.2.1,h1.2.2.2,Bool.true_and,Bool.true_and,Bool.true_and,Bool.true_and]at k
  exact⟨lss,rfl,hl,hn,k⟩
 |false=>
  rw[if_neg (by decide)]
  rw[show (Xci (1,64) a && (Xci (1,64) b && (Xci (0,6) c && (Xci (0,4000) d && Yb2 lss))))=((Xci (1,64) a && (Xci (1,64) b && (Xci (0,6) c && Xci (0,4000) d))) && Yb2 lss) by simp only[Bool.and_assoc],h1,Bool.false_and]at k
  exact k
abbrev Xmd:Stmt:=top 15
theorem Xrn:FnScope ["bits","filled"] ["bits"] (Xae Xmd):=by walk_at "S"
theorem Xzy (Df:DefAt K mg "packed" Xmd f fd)(B:BltV mg)(KV:KitV K)(Xbx:∃t,mg "LETTERS_packs"=some (.str "abcdefghijklmnop" t))(Xk8:Yjv K mg "FOURS" ["0000","0001","0010","0011","0100","0101","0110","0111","1000","1001","1010","1011","1100","1101","1110","1111"]):
  Cal P w K mg base "packed" 1 ["bits"] (spV K 1 Xrf):=by
 refine CalV.of Df Xrn (by walk_at "b") rfl (λc A o s H E hr=>⟨_,_,(Xag (Xa4 (i:=1) Xrn.nd rfl (Or.inr rfl) (Xaw Xf0 (pv 0) (Xaw Yhu Xat (Xaw Xb9 (Xw4 Xo5 (Xar Xce (by rfl) B.len boot_len (Xaa (pv 0) Xac))) Xal))))
   (Xaj (Xaz (Xdb plainAttrs_str slot_str_join type_str_join Xh2 Xat (Xaa (Xd6 rfl (Xh0 (by rfl) (by exact B.range) (Xaa Xal (Xaa (Xar Xce (by rfl) B.len boot_len (Xaa (pv 1) Xac)) (Xaa Xal Xac)))) (show BlkScope (Xae Xmd) _ from⟨rfl,by decide +kernel,by decide +kernel,by decide +kernel⟩) (N:=["at","filled"]) (ix:=[none,some 1]) (show Xb2 _ _ _ _ from⟨⟨rfl,rfl,.inl rfl⟩,trivial⟩) (λ_ _ _=>(Xbc (i:=0) (show List.Nodup (["at","filled"]:List Str) by decide +kernel) rfl (Or.inl rfl))) (λ_ _ _=>(Xba Xs2 (Xfd (by rfl) Xbx) (Xdb PySem.F.plainAttrs_tuple PySem.F.slot_tuple_index PySem.F.type_tuple_index Yh8 (Yc3 (by rfl) Xk8) (Xaa (Xdf Xln (pv 1) (Xdd (pv 0)) (Xdd (Xaw Xdj (pv 0) Xal))) Xac)) (λ_ _=>rfl)))) Xac))))),
  (Xao (Xa5 (Xa0 (Xaq Xnm Xad (Xap (Xaq Yh2 (Xap Xas) (Xap (Xaq Xc5 (Xap (Xpi (Xap (Xbl Xif (Xaf Xad Xan))))) (Xap Xah))))))))
   (Xa2 (Xa0 (Xjn (Xap Xas) (Xap (Xby (Xc4 (Xnd (Xaf (Xap Xah) (Xaf (Xap (Xbl Xif (Xaf Xad Xan))) (Xaf (Xap Xah) Xan)))) Xbe (Xa0 (Xbo Xsq Xas (Ygx (Xap (Xlr Xai (Xkc Xad) (Xkc (Xap (Xaq Xcl Xad (Xap Xah)))))))))))))))),?_⟩)
 rintro ds Pr ⟨bs,rfl,hl,k⟩
 have hm:(4-bs.length%4)%4<4:=by lia
 have e0 : -(((bT bs).length:Nat):Int)%4=(((4-bs.length%4)%4:Nat):Int):=by rw[Xbv,length_map];omega
 have e1:bT bs++Yhe (Str.ofString "0") (((4-bs.length%4)%4:Nat):Int)=bT (fl bs):=by
  rw[Xzc _ hm,Xn9,<- map_append]
  rfl
 have e2:(bT bs).length=bs.length:=by rw[Xbv,length_map]
 have e3:(Yhe (Str.ofString "0") (((4-bs.length%4)%4:Nat):Int)).length<4:=by rw[Xzc _ hm,Xbv,length_map,length_replicate];exact hm
 obtain⟨n,hn,hn2⟩:=Yl9 bs
 have e4:(bT (fl bs)).length=4*n:=by rw[Xbv,length_map,hn]
 have e5:(Str.ofString "0").length=1:=by decide +kernel
 have e6:Xhx 0 ((4*n:Nat):Int) 4=n:=by rw[Ypt];lia
 fin2
 rw[e0,e1,e2,e4,e5,e6]
 refine⟨by lia,by lia,by lia,by lia,by lia,by lia,by lia,?_⟩
 refine Xmu.rng (λi=>.fz (.str (tx [97+(pk bs).getD i 0]))) (by lia) (λi hi Q q=>?_) ?_
 .fin2
  obtain⟨a,b,c,d,h1,h2⟩:=Ymu i (fl bs) (by lia)
  rw[show (0:Int)+(i:Int)*4=((4*i:Nat):Int) by lia,show ((4*i:Nat):Int)+4=((4*i+4:Nat):Int) by lia,Yf1 _ (by lia) (by rw[e4];lia),e4,Yig]
  have e7:tx (((bT (fl bs)).cps.toList.drop (4*i)).take (4*i+4-4*i))=bT [a,b,c,d]:=by
   show tx ((((fl bs).map bch).drop (4*i)).take (4*i+4-4*i))=_
   rw[show 4*i+4-4*i=4 by lia,<- map_drop,<- map_take,h1]
  rw[e7]
  obtain⟨g1,g2,g3⟩:=Ya5 a b c d
  rw[Yhl]at h2
  refine⟨by lia,g1,by lia,_,by rw[g2];exact Yaf g3,?_⟩
  rw[getD_eq_getElem?_getD,h2]at q
  exact q
 .fin2
  have hk:(pk bs).length=n:=by rw[<- Yhl,Xzi,hn];lia
  have em:((List.range n).map λi=>(97+(pk bs).getD i 0))=(pk bs).map (97+·):=by
   refine ext_getElem? λi=>?_
   by_cases hi:i<n
   .rw [getElem?_map,List.getElem?_range hi,getElem?_map,getElem?_eq_getElem (by lia)]
    simp[getElem?_eq_getElem (show i<(pk bs).length by lia)]
   .rw [getElem?_eq_none (by simp;lia),getElem?_eq_none (by simp;lia)]
  refine⟨((pk bs).map (97+·)).map λm=>tx [m],?_,?_,?_⟩
  .rw [<- em,map_map,map_map,map_map]
   rfl
  .rw [Xyh,length_map,length_map,hk,Xv4,Xbv]
   show n+n*0<=_
   lia
  .rw [Ydn]
   exact k
abbrev Xm9:Stmt:=top 16
theorem Xwv:FnScope ["letter"] ["letter"] (Xae Xm9):=by walk_at "S"
theorem Xxc (Df:DefAt K mg "four_of" Xm9 f fd)(B:BltV mg)(KV:KitV K)(h_NoText:nsIn K mainGlobals "NoText"=some (some (.ref C_NoText)))(O_NoText:PyProof.Rows.OwnCls "NoText" C_NoText [.type "ValueError",.type "Exception",.type "BaseException",.type "object"] "ValueError.__new__" mg base)(Xbx:∃t,mg "LETTERS_packs"=some (.str "abcdefghijklmnop" t))(Xk8:Yjv K mg "FOURS" ["0000","0001","0010","0011","0100","0101","0110","0111","1000","1001","1010","1011","1100","1101","1110","1111"]):
  CalX P w K mg base "four_of" 1 ["letter"] (spX K 1 Xpd):=by
 refine CalXV.of Df Xwv (by walk_at "b") rfl (λcdv A outer s H E hr F Xc hE=>⟨_,_,(Xag (Xb0 (Xbb Xsd (pv 0) (Xfd (by rfl) Xbx) (by rfl)) (Xaj (Xim (by rfl) O_NoText excBase_ValueError hr.hd Xat)) Xa8)
   (Xaj (Xaz (Xba Xbh (Xeh (by rfl) Xk8.c) (Xdb plainAttrs_str PySem.F.slot_str_find PySem.F.type_str_find Yh9 (Xfd (by rfl) Xbx) (Xaa (pv 0) Xac)) (λ_ _=>rfl))))),
  (Xev (Xwy (Xa9 (Xaq Xz4 Xad (Xap Xas))) (Xik h_NoText hE (Xap Xas)) (Xc3.x Xa7))
   (Xc3.x (Xa2 (Xa0 (Xbo Xbg Xqa (Yg1 (Xap Xas) Xad)))))),?_⟩)
 rintro ds Pr ⟨c,rfl,k⟩
 fin2
 have hf:=PySem.StrLaws.found_one LET c
 by_cases h:97<=c/\c<=112
 .rw [if_pos h]at k
  rw[decide_eq_true (Yad.mpr h)]at hf
  rw[if_neg (by intro z;rw[show tx [c]=⟨#[c]⟩ from rfl]at z;rw[z]at hf;cases hf)]
  have e:c=97+(c-97):=by omega
  refine⟨_,?_,k⟩
  rw[show tx [c]=tx [97+(c-97)] by rw[<- e],Ydj (by lia)]
  exact Yl8 (by lia)
 .rw [if_neg h]at k
  rw[decide_eq_false (λz=>h (Yad.mp z))]at hf
  rw[if_pos (by rw[show tx [c]=⟨#[c]⟩ from rfl];simpa using hf)]
  exact k
theorem Ykc (cs:List Nat):((cs.map λc=>bT (fr (c-97))).map (·.length)).sum=4*cs.length:=by
 induction cs with
 |nil=>rfl
 |cons c cs ih=>rw[map_cons,map_cons,sum_cons,length_cons];show 4+_=_;lia
theorem Yil (cs:List Nat):Txt.join (Str.ofString "") (cs.map λc=>bT (fr (c-97)))=bT (cs.flatMap λc=>fr (c-97)):=by
 have:=Yak (cs.map λc=>(fr (c-97)).map bch)
 rw[map_map]at this
 rw[show (cs.map λc=>bT (fr (c-97)))=cs.map (tx∘λc=>(fr (c-97)).map bch) from rfl,this]
 congr 1
 rw[List.map_flatMap,List.flatMap_def]
abbrev Xij:Stmt:=top 17
theorem Xtu:FnScope ["letters"] ["letters"] (Xae Xij):=by walk_at "S"
theorem Xua (Df:DefAt K mg "unpacked" Xij f fd)(B:BltV mg)(KV:KitV K)(h_NoText:nsIn K mainGlobals "NoText"=some (some (.ref C_NoText)))(O_NoText:PyProof.Rows.OwnCls "NoText" C_NoText [.type "ValueError",.type "Exception",.type "BaseException",.type "object"] "ValueError.__new__" mg base)(Xn7:CalX P w K mg base "four_of" 1 ["letter"] (spX K 1 Xpd)):
  CalX P w K mg base "unpacked" 2 ["letters"] (spX K 1 Xm0):=by
 refine CalXV.of Df Xtu (by walk_at "b") rfl (λcdv A outer s H E hr F Xc hE=>⟨_,_,(Xaj (Xaz (Xdb plainAttrs_str slot_str_join type_str_join Xh2 Xat (Xaa (Xqh rfl (Yes (pv 0)) (show BlkScope (Xae Xij) _ from⟨rfl,by decide +kernel,by decide +kernel,by decide +kernel⟩) (N:=["letter"]) (ix:=[none]) (show Xb2 _ _ _ _ from trivial) (λ_ _ _=>(Xbc (i:=0) (show List.Nodup (["letter"]:List Str) by decide +kernel) rfl (Or.inl rfl))) Xn7 (hr.mono (by decide)) (λ_ _ _=>by rfl) (λ_ _ _=>(Xaa (pv 0) Xac))) Xac)))),
  (Xwx (Xap Xas) (Xmg hE (Yen Xad) Xbe (Xab Xai Xam))),?_⟩)
 rintro ds Pr ⟨cs,rfl,hl,k⟩
 fin2
 have hs:Yb1 (tx cs)=cs.map λc=>tx [c]:=rfl
 rw[hs]
 refine⟨λi δ ts=>∃o,δ=[o]/\(∀c∈cs.take i,97<=c/\c<=112)/\ts=(cs.take i).map λc=>.fz (.str (bT (fr (c-97)))),⟨none,rfl,λc hc=>(by rw[List.take_zero]at hc;cases hc),rfl⟩,?_,?_⟩
 .rintro i d δ ts hd ⟨o,rfl,hg,rfl⟩
  rw[getElem?_map,getElem?_map]at hd
  cases hc:cs[i]? with
  |none=>rw[hc]at hd;cases hd
  |some c=>
   rw[hc]at hd
   cases hd
   obtain⟨hi,hci⟩:=List.getElem?_eq_some_iff.mp hc
   refine⟨by rw[length_map,length_take];omega,?_⟩
   fin2
   refine⟨c,rfl,?_⟩
   by_cases h:97<=c/\c<=112
   .rw [if_pos h]
    refine⟨_,rfl,?_,?_⟩
    .rw [take_add_one,hc]
     intro x hx
     rcases mem_append.mp hx with z |z
     .exact hg x z
     .rw [mem_singleton.mp z];exact h
    .rw [take_add_one,hc,map_append]
     rfl
   .rw [if_neg h]
    rw[if_neg (λz=>h (z c (hci▸getElem_mem hi)))]at k
    exact k
 .rintro δ ts ⟨o,rfl,hg,rfl⟩
  rw[length_map,length_map,take_length]at hg
  rw[if_pos hg]at k
  fin2
  rw[take_length]
  refine⟨cs.map λc=>bT (fr (c-97)),by rw[map_map,map_map];rfl,?_,?_⟩
  .rw [Ykc,length_map,Xv4,Xbv]
   show 4*cs.length+cs.length*0<=_
   lia
  .rw [Yil]
   exact k
abbrev Xgc:Stmt:=top 90
theorem Xi3:FnScope ["word","figures"] ["word"] (Xae Xgc):=by walk_at "S"
theorem Xor (Df:DefAt K mg "read_number" Xgc f fd)(B:BltV mg)(KV:KitV K)(h_NoText:nsIn K mainGlobals "NoText"=some (some (.ref C_NoText)))(O_NoText:PyProof.Rows.OwnCls "NoText" C_NoText [.type "ValueError",.type "Exception",.type "BaseException",.type "object"] "ValueError.__new__" mg base)(Xnw:∃t,mg "FIGURES"=some (.str "0123456789" t))(Xgy:Ybz K mg "FIGURE_SPAN" (D.tup [.int 1,.int 4]))(Xdp:Cal P w K mg base "holds" 1 ["one","number"] (spV K 2 Xii)):
  CalX P w K mg base "read_number" 2 ["word"] (spX K 1 Xdu):=by
 refine CalXV.of Df Xi3 (by walk_at "b") rfl (λcdv A outer s H E hr F Xc hE=>⟨_,_,(Xag (Xa4 (i:=1) Xi3.nd rfl (Or.inl rfl) (Xqg (Xcv (Xdb plainAttrs_str PySem.F.slot_str_startswith PySem.F.type_str_startswith Xss (pv 0) (Xaa Xat Xac))) (Xdf Xln (pv 0) (Xdd Xal) Xhy) (pv 0)))
   (Xag (Xb0 (Xop (Xbb Xt8 (Xdb plainAttrs_str PySem.F.slot_str_strip PySem.F.type_str_strip Yde (pv 1) (Xaa (Xfd (by rfl) Xnw) Xac)) Xat (Xbf _)) (Xi8 (Xey (Xcv (Xa6 Xdp (hr.mono (by decide)) (by rfl) (Xaa (Xeh (by rfl) Xgy) (Xaa (Xar Xce (by rfl) B.len boot_len (Xaa (pv 1) Xac)) Xac))))))).pt (Xaj (Xim (by rfl) O_NoText excBase_ValueError hr.hd Xat)) Xa8)
   (Xag (Xb0 (Xzg (Xcv (Xdb plainAttrs_str PySem.F.slot_str_startswith PySem.F.type_str_startswith Xss (pv 1) (Xaa Xat Xac))) (Xt2 (Xbb Xt8 (pv 0) Xat (Xbf _)))).pt (Xaj (Xim (by rfl) O_NoText excBase_ValueError hr.hd Xat)) Xa8)
   (Xaj (Xaz (Xdg Ybr (by rfl) B.int PyProof.Rows.boot_int (Xaa (pv 0) Xac))))))),
  (Xev (Xc3.x (Xa5 (Xa0 (Ygz (Xoe (Xry Xad (Xap Xas))) (Xlr Xai (Xkc (Xap Xah)) Xrw) Xai))))
   (Xev (Xwy (Xoo (Xa9 (Xaq Xud (Xap (Ycn Xad (Xap Xas))) (Xap Xas))) (Xeu (Xoe (Xby (Xa1 (Xab Xqa (Xab (Xbl Xif (Xaf Xad Xan)) Xam))))))) (Xik h_NoText hE (Xap Xas)) (Xc3.x Xa7))
   (Xev (Xwy (Xyv (Xoe (Xry Xad (Xap Xas))) (Xa9 (Xaq Xud Xad (Xap Xas)))) (Xik h_NoText hE (Xap Xas)) (Xc3.x Xa7))
   (Xc3.x (Xa2 (Xa0 (Xbl Yja (Xaf Xad Xan)))))))),?_⟩)
 rintro ds Pr ⟨x,r,rfl,hl,hr,k0⟩
 have k:if Yjc x=true then Xc (Str.ofString "NoText") else ∃n,PySem.intText? x=some n/\Pr (.fz (.int n)):=by
  unfold rn at hr
  by_cases z:Yjc x=true
  .rw [if_pos z]at hr ⊢
   cases hr
   exact k0
  .rw [if_neg z]at hr ⊢
   cases hi:PySem.intText? x with
   |none=>rw[hi]at hr;cases hr
   |some n=>
    rw[hi]at hr
    cases hr
    exact⟨n,rfl,k0⟩
 have hy:(Xxq x).length<=600:=by
  unfold Xxq
  split
  .exact le_trans (Txt.slice_le x _ _) hl
  .exact hl
 have main : ∀y,Xxq x=y->y.length<=1000000/\if (!decide (Txt.stripChars y (Str.ofString "0123456789")=Str.ofString ""))=true then Xc (Str.ofString "NoText") else y.length<=1000000/\Xii [D.tup [D.int 1,D.int 4],D.int (y.length:Int)] λr=>match r.val with
   |D.bl b=>if (!b)=true then Xc (Str.ofString "NoText") else if Txt.startswith y (Str.ofString "0")=true then (if (!decide (x=Str.ofString "0"))=true then Xc (Str.ofString "NoText") else ∃n,PySem.intText? x=some n/\x.length<=640/\Pr (OV.fz (D.int n))) else ∃n,PySem.intText? x=some n/\x.length<=640/\Pr (OV.fz (D.int n))
   |x=>False:=by
  intro y hfy
  unfold Yjc at k
  rw[hfy]at k hy
  refine⟨by lia,?_⟩
  generalize decide (Txt.stripChars y (Str.ofString "0123456789")=Str.ofString "")=b1 at k
  cases b1 with
  |false=>exact k
  |true=>
   rw[if_neg (by decide)]
   refine⟨by lia,1,4,y.length,rfl,?_⟩
   show if (!(decide ((1:Int)<=(y.length:Int)) && decide ((y.length:Int)<=4)))=true then _ else _
   generalize (decide ((1:Int)<=(y.length:Int)) && decide ((y.length:Int)<=4))=b2 at k
   cases b2 with
   |false=>exact k
   |true=>
    rw[if_neg (by decide)]
    generalize Txt.startswith y (Str.ofString "0")=b3 at k
    generalize decide (x=Str.ofString "0")=b4 at k
    cases b3 with
    |false=>
     obtain⟨n,h1,h2⟩:=k
     exact⟨n,h1,by lia,h2⟩
    |true=>
     cases b4 with
     |false=>exact k
     |true=>
      obtain⟨n,h1,h2⟩:=k
      exact⟨n,h1,by lia,h2⟩
 fin2
 by_cases hs:Txt.startswith x (Str.ofString "-")=true
 .rw [if_pos hs]
  exact⟨by lia,main _ (by unfold Xxq;rw[if_pos hs])⟩
 .rw [if_neg hs]
  exact main _ (by unfold Xxq;rw[if_neg hs])
abbrev Xdw:Stmt:=top 91
theorem Xm3:FnScope ["lift"] ["lift"] (Xae Xdw):=by walk_at "S"
theorem Xnk (Df:DefAt K mg "written_lift" Xdw f fd)(B:BltV mg)(KV:KitV K):
  Cal P w K mg base "written_lift" 1 ["lift"] (spV K 1 Xhj):=by
 refine CalV.of Df Xm3 (by walk_at "b") rfl (λc A o s H E hr=>⟨_,_,(Xaj (Xaz (Xdb plainAttrs_str slot_str_join type_str_join Xh2 Xat (Xaa (Xd6 rfl (Xr8 (pv 0)) (show BlkScope (Xae Xdw) _ from⟨rfl,by decide +kernel,by decide +kernel,by decide +kernel⟩) (N:=["number"]) (ix:=[none]) (show Xb2 _ _ _ _ from trivial) (λ_ _ _=>(Xbc (i:=0) (show List.Nodup (["number"]:List Str) by decide +kernel) rfl (Or.inl rfl))) (λ_ _ _=>(Xdg Xlx (by rfl) B.str PyProof.Rows.boot_str (Xaa (pv 0) Xac)))) Xac)))),
  (Xa2 (Xa0 (Xjn (Xap Xas) (Xap (Xby (Xc4 (Xrx Xai) Xbe (Xa0 (Xbl Yfu (Xaf Xad Xan))))))))),?_⟩)
 rintro ds Pr ⟨f,rfl,ok,k⟩
 unfold lfD
 fin2
 have ob:=Xqk ok
 refine Xmu.map [f.h,f.l,f.r,f.a,f.s] D.int (λx=>.fz (.str (Xb6 x))) (by show 5<=1000000;decide) (λx hx Q q=>?_) ?_
 .fin2
  exact⟨Nat.lt_of_le_of_lt (Nat.log2_le_self _) (by have:=ob x hx;lia),q⟩
 refine⟨[Xb6 f.h,Xb6 f.l,Xb6 f.r,Xb6 f.a,Xb6 f.s],rfl,?_,?_⟩
 .have h1:=Xcn (le_trans (ob f.h (by simp)) (by decide))
  have h2:=Xcn (le_trans (ob f.l (by simp)) (by decide))
  have h3:=Xcn (le_trans (ob f.r (by simp)) (by decide))
  have h4:=Xcn (le_trans (ob f.a (by simp)) (by decide))
  have h5:=Xcn (le_trans (ob f.s (by simp)) (by decide))
  show (Xb6 f.h).length+((Xb6 f.l).length+((Xb6 f.r).length+((Xb6 f.a).length+((Xb6 f.s).length+0))))+5*(Str.ofString ",").length<=16777216
  rw[show (Str.ofString ",").length=1 from rfl]
  lia
 .rw [Xq0,Xfn]
  exact k
abbrev Xc0:Stmt:=top 92
theorem Xkx:FnScope ["ladder"] ["ladder"] (Xae Xc0):=by walk_at "S"
theorem Xk3 (Df:DefAt K mg "written_ladder" Xc0 f fd)(B:BltV mg)(KV:KitV K)(Xen:∃t,mg "NO_LIFTS"=some (.str "-" t))(Xfo:Cal P w K mg base "written_lift" 1 ["lift"] (spV K 1 Xhj)):
  Cal P w K mg base "written_ladder" 2 ["ladder"] (spV K 1 Xft):=by
 refine CalV.of Df Xkx (by walk_at "b") rfl (λc A o s H E hr=>⟨_,_,(Xag (Xb0 (Xbb Xfk (Xar Xax (by rfl) B.len boot_len (Xaa (pv 0) Xac)) Xal (Xbf _)) (Xaj (Xaz (Xfd (by rfl) Xen))) Xa8)
   (Xaj (Xaz (Xdb plainAttrs_str slot_str_join type_str_join Xh2 Xat (Xaa (Xd6 rfl (Xr8 (pv 0)) (show BlkScope (Xae Xc0) _ from⟨rfl,by decide +kernel,by decide +kernel,by decide +kernel⟩) (N:=["lift"]) (ix:=[none]) (show Xb2 _ _ _ _ from trivial) (λ_ _ _=>(Xbc (i:=0) (show List.Nodup (["lift"]:List Str) by decide +kernel) rfl (Or.inl rfl))) (λ_ _ _=>(Xa6 Xfo (hr.mono (by decide)) (by rfl) (Xaa (pv 0) Xac)))) Xac))))),
  (Xao (Xcd (Xa9 (Xaq Xfm (Xap (Xbl Xco (Xaf Xad Xan))) (Xap Xah))) (Xa2 (Xa0 Xas)) Xa7)
   (Xa2 (Xa0 (Xjn (Xap Xas) (Xap (Xby (Xc4 (Xrx Xai) Xbe (Xa1 (Xab Xai Xam))))))))),?_⟩)
 rintro ds Pr ⟨fs,rfl,hl,ok,k⟩
 unfold Xog
 gn_on
 by_cases z:fs=[]
 .rw [if_pos (by rw[z];rfl)]
  rw[Xl8,if_pos z,<- Xmo]at k
  exact k
 rw[if_neg (by intro q;exact z (List.length_eq_zero_iff.mp (by lia)))]
 gp_on
 fin2
 refine Xmu.map fs lfD (λf=>.fz (.str (Xjq f))) (by lia) (λf hf Q q=>?_) ?_
 .fin2
  exact⟨f,rfl,ok f hf,q⟩
 refine⟨fs.map Xjq,by rw[OV.vals_eq,map_map,map_map];rfl,?_,?_⟩
 .have h1:∀y∈fs.map Xjq,y.length<=30:=λy hy=>by
   obtain⟨f,hf,rfl⟩:=mem_map.mp hy
   exact Xvt (ok f hf)
  have h2:=Ykb h1
  rw[length_map]at h2
  rw[length_map,show (Str.ofString ";").length=1 from rfl]
  lia
 .rw [Xtt,Xfn]
  rw[Xl8,if_neg z]at k
  exact k
abbrev Xj8:Stmt:=top 93
theorem Xph:FnScope ["head","bits","numbers"] ["head","bits"] (Xae Xj8):=by walk_at "S"
theorem Xw6 (Df:DefAt K mg "written" Xj8 f fd)(B:BltV mg)(KV:KitV K)(Xgx:∃t,mg "LADDER"=some (.int 4 t))(Xpr:∃t,mg "NAME"=some (.str "liftwave" t))(Xd7:Cal P w K mg base "written_ladder" 2 ["ladder"] (spV K 1 Xft))(Xq4:Cal P w K mg base "packed" 1 ["bits"] (spV K 1 Xrf)):
  Cal P w K mg base "written" 3 ["head","bits"] (spV K 2 Xo8):=by
 refine CalV.of Df Xph (by walk_at "b") rfl (λc A o s H E hr=>⟨_,_,(Xag (Xk1 (i:=2) Xph.nd rfl (Or.inl rfl) rfl (Xr8 (Xdf Ygd (pv 0) Xhy (Xdd (Xau (by rfl) Xgx)))) (show BlkScope (Xae Xj8) _ from⟨rfl,by decide +kernel,by decide +kernel,by decide +kernel⟩) (N:=["number"]) (ix:=[none]) (show Xb2 _ _ _ _ from trivial) (λ_ _ _=>(Xbc (i:=0) (show List.Nodup (["number"]:List Str) by decide +kernel) rfl (Or.inl rfl))) (λ_ _ _=>(Xdg Xlx (by rfl) B.str PyProof.Rows.boot_str (Xaa (pv 0) Xac))))
   (Xaj (Xaz (Xdb plainAttrs_str slot_str_join type_str_join Xh2 Xat (Xaa (Xaw Xfl (Xaw Xfl (Xbm (Xaa (Xfd (by rfl) Xpr) Xac)) (pv 2)) (Xbm (Xaa (Xa6 Xd7 (hr.mono (by decide)) (by rfl) (Xaa (Xba Xbh (pv 0) (Xau (by rfl) Xgx) (λ_ _=>rfl)) Xac)) (Xaa (Xa6 Xq4 (hr.mono (by decide)) (by rfl) (Xaa (pv 1) Xac)) Xac)))) Xac))))),
  (Xao (Xa5 (Xa0 (Xby (Xc4 (Xrx (Ykq Xai Xrw (Xkc (Xap Xah)))) Xbe (Xa0 (Xbl Yfu (Xaf Xad Xan)))))))
   (Xa2 (Xa0 (Xjn (Xap Xas) (Xap (Xby (Xgo (Xby (Xgo (Xby (Xb3 (Xak (Xa0 Xas) Xbn))) Xai)) (Xby (Xb3 (Xak (Xa1 (Xab (Xbo Xbg Xai Xah) Xam)) (Xak (Xa1 (Xab Xai Xam)) Xbn))))))))))),?_⟩)
 rintro ds Pr ⟨h,w,L,n,fs,bs,rfl,hd,hl,k⟩
 gn_on
 obtain⟨⟨h1,h2⟩,⟨w1,w2⟩,hL,hn,hf,ok⟩:=hd
 show Xmu _ _ ([(h:Int),w,L,n].map D.int) _ _
 refine Xmu.map _ D.int (λx=>.fz (.str (Xb6 x))) (by show 4<=1000000;decide) (λx hx Q q=>?_) ?_
 .fin2
  refine⟨Nat.lt_trans (Yaa ?_) (by decide),q⟩
  simp only[mem_cons,not_mem_nil,or_false]at hx
  rcases hx with rfl |rfl |rfl |rfl<;>lia
 gp_on
 fin2
 refine⟨fs,rfl,hf,ok,bs,by rw[Xig],hl,wrT h w L n fs bs,rfl,?_,?_⟩
 .have:=Xx1 ⟨⟨h1,h2⟩,⟨w1,w2⟩,hL,hn,hf,ok⟩ hl
  rw[show (wrT h w L n fs bs).length=7 from rfl,show (Str.ofString " ").length=1 from rfl]
  lia
 .rw [Xdz,Xfn]
  exact k
abbrev Xgd:Stmt:=top 94
theorem Xrl:FnScope ["word"] ["word"] (Xae Xgd):=by walk_at "S"
theorem Xsf (Df:DefAt K mg "read_lift" Xgd f fd)(B:BltV mg)(KV:KitV K){C_NoText:Addr}(h_NoText:nsIn K mainGlobals "NoText"=some (some (.ref C_NoText)))(O_NoText:PyProof.Rows.OwnCls "NoText" C_NoText [.type "ValueError",.type "Exception",.type "BaseException",.type "object"] "ValueError.__new__" mg base)(Xcr:CalX P w K mg base "read_number" 2 ["word"] (spX K 1 Xdu)):
  CalX P w K mg base "read_lift" 3 ["word"] (spX K 1 Xlj):=by
 refine CalXV.of Df Xrl (by walk_at "b") rfl (λcdv A outer s H E hr F Xc hE=>⟨_,_,(Xaj (Xaz (Xdg Xg0 (by rfl) B.tuple PyProof.Rows.boot_tuple (Xaa (Xqh rfl (Xfj (Xdb plainAttrs_str slot_str_split type_str_split Xmn (pv 0) (Xaa Xat Xac))) (show BlkScope (Xae Xgd) _ from⟨rfl,by decide +kernel,by decide +kernel,by decide +kernel⟩) (N:=["part"]) (ix:=[none]) (show Xb2 _ _ _ _ from trivial) (λ_ _ _=>(Xbc (i:=0) (show List.Nodup (["part"]:List Str) by decide +kernel) rfl (Or.inl rfl))) Xcr (hr.mono (by decide)) (λ_ _ _=>by rfl) (λ_ _ _=>(Xaa (pv 0) Xac))) Xac)))),
  (Yek (Xyz Xwd (Xmg hE (Xgq (Xby (Xmh Xad (Xap Xas)))) Xbe (Xab Xai Xam)))),?_⟩)
 rintro ds Pr ⟨x,r,rfl,hx,hr,k⟩
 fin2
 rw[map_map]
 refine⟨by decide +kernel,by lia,?_⟩
 unfold rl at hr
 rw[Xq0]at hr ⊢
 have hp:=Xki x 44 hx
 refine Xku (g:=λn=>.fz (.int n)) (by lia) (λw hw Q r' hr' k'=>⟨w,r',rfl,le_trans (Xqi hw) hx,hr',k'⟩) hr ?_
 cases r with
 |none=>exact k
 |some ns=>
  show match [(OV.nl (ns.map λn=>OV.fz (D.int n))).val] with
   | [D.lst xs]=>Pr (OV.fz (D.tup xs))
   |_=>False
  rw[OV.val,OV.vals_eq,map_map]
  exact k
abbrev Xed:Stmt:=top 95
theorem Xol:FnScope ["word"] ["word"] (Xae Xed):=by walk_at "S"
theorem Xos (Df:DefAt K mg "read_ladder" Xed f fd)(B:BltV mg)(KV:KitV K){C_NoText:Addr}(h_NoText:nsIn K mainGlobals "NoText"=some (some (.ref C_NoText)))(O_NoText:PyProof.Rows.OwnCls "NoText" C_NoText [.type "ValueError",.type "Exception",.type "BaseException",.type "object"] "ValueError.__new__" mg base)(Xen:∃t,mg "NO_LIFTS"=some (.str "-" t))(Xjt:CalX P w K mg base "read_lift" 3 ["word"] (spX K 1 Xlj)):
  CalX P w K mg base "read_ladder" 4 ["word"] (spX K 1 Xiu):=by
 refine CalXV.of Df Xol (by walk_at "b") rfl (λcdv A outer s H E hr F Xc hE=>⟨_,_,(Xag (Xb0 (Xbb Xfk (pv 0) (Xfd (by rfl) Xen) (Xbf _)) (Xaj (Xaz (Xbw Xac))) Xa8)
   (Xaj (Xaz (Xdg Xg0 (by rfl) B.tuple PyProof.Rows.boot_tuple (Xaa (Xqh rfl (Xfj (Xdb plainAttrs_str slot_str_split type_str_split Xmn (pv 0) (Xaa Xat Xac))) (show BlkScope (Xae Xed) _ from⟨rfl,by decide +kernel,by decide +kernel,by decide +kernel⟩) (N:=["part"]) (ix:=[none]) (show Xb2 _ _ _ _ from trivial) (λ_ _ _=>(Xbc (i:=0) (show List.Nodup (["part"]:List Str) by decide +kernel) rfl (Or.inl rfl))) Xjt (hr.mono (by decide)) (λ_ _ _=>by rfl) (λ_ _ _=>(Xaa (pv 0) Xac))) Xac))))),
  (Xev (Xc3.x (Xcd (Xa9 (Xaq Xfm Xad (Xap Xas))) (Xa2 (Xa0 (Xcp Xam))) Xa7))
   (Yek (Xyz Xwd (Xmg hE (Xgq (Xby (Xmh Xad (Xap Xas)))) Xbe (Xab Xai Xam))))),?_⟩)
 rintro ds Pr ⟨x,r,rfl,hx,hr,k⟩
 gn_on
 unfold Xy9 at hr
 by_cases z:x=Str.ofString "-"
 .rw [if_pos z]at hr ⊢
  cases hr
  exact k
 rw[if_neg z]at hr ⊢
 gp_on
 fin2
 rw[map_map]
 refine⟨by decide +kernel,by lia,?_⟩
 rw[Xtt]at hr ⊢
 have hp:=Xki x 59 hx
 refine Xku (g:=λns=>.fz (Yb8 ns)) (by lia) (λw hw Q r' hr' k'=>⟨w,r',rfl,le_trans (Xqi hw) hx,hr',k'⟩) hr ?_
 cases r with
 |none=>exact k
 |some lss=>
  show match [(OV.nl (lss.map λns=>OV.fz (Yb8 ns))).val] with
   | [D.lst xs]=>Pr (OV.fz (D.tup xs))
   |_=>False
  rw[OV.val,OV.vals_eq,map_map]
  exact k
theorem Ycq (hx:x.length<=600)(h:Xy9 x=some (some lss)):lss.length<=10000/\∀ns∈lss,ns.length<=10000:=by
 unfold Xy9 at h
 by_cases z:x=Str.ofString "-"
 .rw [if_pos z]at h
  cases h
  exact⟨by decide,λ_ h=>by cases h⟩
 .rw [if_neg z,Xtt]at h
  have h1:=Xq7 h
  have h2:=Xki x 59 hx
  refine⟨by lia,λns hn=>?_⟩
  obtain⟨w,hw,e⟩:=Xwf h hn
  unfold rl at e
  rw[Xq0]at e
  have h3:=Xq7 e
  have h4:=Xki w 44 (le_trans (Xqi hw) hx)
  lia
abbrev Xge:Stmt:=top 96
theorem Xhs:FnScope ["words","numbers","head"] ["words"] (Xae Xge):=by walk_at "S"
theorem Xsg (Df:DefAt K mg "read_head" Xge f fd)(B:BltV mg)(KV:KitV K){C_NoText:Addr}(h_NoText:nsIn K mainGlobals "NoText"=some (some (.ref C_NoText)))(O_NoText:PyProof.Rows.OwnCls "NoText" C_NoText [.type "ValueError",.type "Exception",.type "BaseException",.type "object"] "ValueError.__new__" mg base)(Xe0:∃t,mg "NUMBERS_START"=some (.int 1 t))(Xqy:∃t,mg "LIFTS"=some (.int 5 t))(Xcr:CalX P w K mg base "read_number" 2 ["word"] (spX K 1 Xdu))(Xg2:CalX P w K mg base "read_ladder" 4 ["word"] (spX K 1 Xiu))(Xn6:Cal P w K mg base "is_head" 4 ["thing"] (spV K 1 Xpc)):
  CalX P w K mg base "read_head" 5 ["words"] (spX K 1 Xlk):=by
 refine CalXV.of Df Xhs (by walk_at "b") rfl (λcdv A outer s H E hr F Xc hE=>⟨_,_,(Xag (Xt3 (i:=1) rfl Xhs.nd rfl (Or.inl rfl) (Xfj (Xdf Xu9 (pv 0) (Xdd (Xau (by rfl) Xe0)) (Xdd (Xau (by rfl) Xqy)))) (show BlkScope (Xae Xge) _ from⟨rfl,by decide +kernel,by decide +kernel,by decide +kernel⟩) (N:=["word"]) (ix:=[none]) (show Xb2 _ _ _ _ from trivial) (λ_ _ _=>(Xbc (i:=0) (show List.Nodup (["word"]:List Str) by decide +kernel) rfl (Or.inl rfl))) Xcr (hr.mono (by decide)) (λ_ _ _=>by rfl) (λ_ _ _=>(Xaa (pv 0) Xac)))
   (Xag (Xa4 (i:=2) Xhs.nd rfl (Or.inl rfl) (Xdg Xg0 (by rfl) B.tuple PyProof.Rows.boot_tuple (Xaa (Xaw Xfl (pv 1) (Xbm (Xaa (Xt6 rfl Xg2 (hr.mono (by decide)) (by rfl) (Xaa (Xba Xbk (pv 0) (Xau (by rfl) Xqy) (λ_ _=>rfl)) Xac)) Xac))) Xac)))
   (Xag (Xb0 (Xey (Xcv (Xa6 Xn6 (hr.mono (by decide)) (by rfl) (Xaa (pv 2) Xac)))) (Xaj (Xim (by rfl) O_NoText excBase_ValueError hr.hd Xat)) Xa8)
   (Xaj (Xaz (pv 2)))))),
  (Xev (Xvc (Ycj (Xmg hE (Xgq (Xby (Yel Xai (Xkc (Xap Xah)) (Xkc (Xap Xah))))) Xbe (Xab Xai Xam))))
   (Xev (Xvc (Ycj (Xyz Xwd (Ykn Xai (Ygt (Xtx hE (Xab (Xbo Xb4 Xai Xah) Xam)))))))
   (Xev (Xwy (Xeu (Xoe (Xby (Xa1 (Xab Xai Xam))))) (Xik h_NoText hE (Xap Xas)) (Xc3.x Xa7))
   (Xc3.x (Xa2 (Xa0 Xai)))))),?_⟩)
 rintro ds Pr ⟨w0,w1,w2,w3,w4,w5,w6,rfl,hx,k⟩
 gn_on
 show Yol _ _ _ _ _ ([w1,w2,w3,w4].map D.str) _ _
 have hw:∀w∈[w1,w2,w3,w4],∀(Q:OV->Prop) r,rn w=some r->Yjq r (λa=>Q (.fz (.int a))) Xc->Xdu [.str w] Q Xc:=λw hm Q r' hr' k'=>⟨w,r',rfl,hx w (by simp only[mem_cons,not_mem_nil,or_false]at hm ⊢;rcases hm with z |z |z |z<;>simp[z]),hr',k'⟩
 rcases k with⟨h1,k⟩ | ⟨a,b,c,d,h1,k⟩
 .exact Xku (g:=λn=>.fz (.int n)) (show 4<=100000 by decide) hw h1 k
 refine Xku (g:=λn=>.fz (.int n)) (show 4<=100000 by decide) hw h1 ?_
 show N _
 gp_on
 gn_on
 refine⟨_,rfl,?_⟩
 have hx5:=hx w5 (by simp)
 rcases k with⟨h2,k⟩ | ⟨lss,h2,k⟩
 .exact ⟨w5,none,rfl,hx5,h2,k⟩
 refine⟨w5,some lss,rfl,hx5,h2,?_⟩
 obtain⟨h3,h4⟩:=Ycq hx5 h2
 show N _
 gp_on
 gn_on
 refine⟨a,b,c,d,lss,rfl,h3,h4,?_⟩
 dsimp only[OV.val]
 by_cases z:Xl9 a b c d lss=true
 .rw [if_pos z]at k
  rw[z,if_neg (by decide)]
  gp_on
  fin2
  exact k
 .rw [if_neg z]at k
  rw[if_pos (by rw[Bool.not_eq_true]at z;rw[z];rfl)]
  exact k
abbrev ltB (cs:List Nat):List Bool:=cs.flatMap λc=>fr (c-97)
theorem Ye2:∀cs:List Nat,(ltB cs).length=4*cs.length
 | []=>rfl
 |c::cs=>by
  show (fr (c-97)++ltB cs).length=_
  rw[length_append,Ye2 cs,length_cons]
  show 4+_=_
  lia
def Rb (a b c d:Int)(lss:List (List Int))(w6:Str)(P:D->Prop)(X:Prop):Prop:=∃cs:List Nat,w6=tx cs/\cs.length<=240000/\(((¬ ∀c∈cs,97<=c/\c<=112)/\X)∨((∀c∈cs,97<=c/\c<=112)/\∃(h w n u:Nat) (v:Wk),a=h/\b=w/\d=n/\h<=100/\n<=5000/\Fol (wk0 (h*w) n) (ltB cs) v/\v.us=u/\u<=(ltB cs).length/\((((ltB cs).length > u+3∨true∈(ltB cs).drop u)/\X)∨((ltB cs).length<=u+3/\true∉(ltB cs).drop u/\P (.tup [hdI a b c d lss,.str (Xbt ((ltB cs).take u)),.bl (decide (v.pl<0))])))))
def Rt (s:Str)(P:D->Prop)(X:Prop):Prop:=((Txt.split s (tx [32])).length≠7/\X)∨∃w0 w1 w2 w3 w4 w5 w6,Txt.split s (tx [32])=[w0,w1,w2,w3,w4,w5,w6]/\((w0≠Str.ofString "liftwave"/\X)∨(w0=Str.ofString "liftwave"/\(∀w∈[w1,w2,w3,w4,w5],w.length<=600)/\Rh w1 w2 w3 w4 w5 (λa b c d lss=>Rb a b c d lss w6 P X) X))
def Xhk:Xwh:=λds P X=>∃s:Str,ds=[.str s]/\s.length<=1000000/\Rt s (λd=>P (.fz d)) (X "NoText")
def Yd3 (s:Str):Prop:=s.length<=1000000/\∀(P:D->Prop) (X:Prop),X->Rt s P X
def Xj3:DSp:=λds P=>∃c:Int,ds=[.int c]/\∀fs:List Lf,fs.length<=6->(∀f∈fs,f.Ok)->P (.fz (Xog fs))
def Ym9 (q:Int×Int)(w:Str):Bool:=decide (w.length<=600) && !(w.cps.toList.contains 32) && (match rn w with
 |some none=>true
 |some (some n)=>Bool.not (Xci q n)
 |none=>false)
def Yna (w:Str):Bool:=decide (w.length<=600) && !(w.cps.toList.contains 32) && (match Xy9 w with
 |some none=>true
 |some (some lss)=>Bool.not (Yb2 lss)
 |none=>false)
def Xfu:DSp:=λds P=>∃(p:Nat) (c:Int) (q:Int×Int),ds=[.int p,.int c]/\spH[p]?=some q/\∀w,Ym9 q w=true->P (.fz (.str w))
def Xhc:DSp:=λds P=>∃c:Int,ds=[.int c]/\∀w,Yna w=true->P (.fz (.str w))
def Xfh:DSp:=λds P=>∃c:Int,ds=[.int c]/\∀x:Nat,(x<97∨112<x)->x≠32->P (.fz (.str (tx [x])))
def Xj4:DSp:=λds P=>∃(bs:List Bool) (c:Int),ds=[.str (lT (pk bs)),.str (Xbt bs),.int c]/\bs.length<=900000/\∀ns:List Nat,(∀n∈ns,n<16)->ns.length<=(pk bs).length+1->(ns.flatMap fr).take bs.length=bs->bs.length<=(ns.flatMap fr).length->(bs.length+3<(ns.flatMap fr).length∨true∈(ns.flatMap fr).drop bs.length)->P (.fz (.str (lT ns)))
def Xiw:DSp:=λds P=>∃(h w L n:Nat) (fs:List Lf) (bs:List Bool) (v:Wk) (way c:Int),ds=[.lst ((wrT h w L n fs bs).map D.str),.str (Xbt bs),.int way,.int c]/\Yb5 h w L n fs/\bs.length<=900000/\Fol (wk0 (h*w) n) bs v/\v.pl<0/\v.us=bs.length/\0<=way/\way<10/\∀s,Yd3 s->P (.fz (.str s))
def Xix:DSp:=λds P=>∃s:Str,ds=[.str s]/\Yd3 s/\P (.fz (.bl true))
theorem Yfb {n:Nat}{i:Int}(h0:0<=i)(h:i<n):ixN n i=some i.toNat:=by
 unfold ixN
 rw[if_pos h0]
 try rw[if_pos (by omega)]
def Xiy:DSp:=λds P=>∃(ns:List Int) (h w:Nat) (mo:Int),ds=[.lst (ns.map .int),.int h,.int w,.int mo]/\ns.length<=1000/\(0<h/\h<=64/\0<w/\w<=64)/\(0<=mo/\mo<=1000000000000000000000000000000)/\∀e:Nat->Nat->Int,(∀i j,-mo<=e i j/\e i j<=mo)->P (.nl (shT D.int h w e))
abbrev Xee:Stmt:=top 101
theorem Xdv:FnScope ["_law_script","_law_high","_law_wide","_law_most","_law_cells","_law_k","_law_at"] ["_law_script","_law_high","_law_wide","_law_most"] (Xae Xee):=by walk_at "S"
theorem Xox (Df:DefAt K mg "_law_picture" Xee f fd)(B:BltV mg)(KV:KitV K):
  Cal P w K mg base "_law_picture" 1 ["_law_script","_law_high","_law_wide","_law_most"] (spV K 4 Xiy):=by
 refine CalV.of Df Xdv (by walk_at "b") rfl (λc A o s H E hr=>⟨_,_,(Xag (Xa4 (i:=4) Xdv.nd rfl (Or.inr rfl) (Xaw Xzt (Xbm (Xaa Xal Xac)) (Xaw Xkk (pv 1) (pv 2))))
   (Xag (Xfz PassesOwn.never rfl (Xde (by rfl) (by exact B.range) (Xaa (Xar Xax (by rfl) B.len boot_len (Xaa (pv 0) Xac)) Xac)) (Xbc (i:=5) Xdv.nd rfl (Or.inl rfl)) (Xag (Xa4 (i:=6) Xdv.nd rfl (Or.inl rfl) (Xaw Xb9 (pv 5) (Xar Xax (by rfl) B.len boot_len (Xaa (pv 4) Xac))))
   (Xaj (Xke (Xaw Xb9 (Xaw Xdj (Xaw Xkk (Xba Xbk (pv 4) (pv 6) (λ_ _=>rfl)) Xal) (Xba Xbk (pv 0) (pv 5) (λ_ _=>rfl))) (Xaw Xdj (Xaw Xkk Xal (pv 3)) Xal)) (Xls (pv 4) (pv 6) Xec)))))
   (Xaj (Xaz (Yc5 rfl (Xde (by rfl) (by exact B.range) (Xaa (pv 1) Xac)) (show Blk1 (Xae Xee) _ "_law_i" from⟨rfl,λ_ _=>rfl,λ_=>rfl,by decide +kernel,by decide +kernel,by decide +kernel,by decide +kernel,by decide +kernel⟩) (N:=["_law_i","_law_most","_law_cells","_law_wide"]) (ix:=[none,some 3,some 4,some 2]) (show Xb2 _ _ _ _ from⟨⟨rfl,rfl,.inl rfl⟩,⟨rfl,rfl,.inl rfl⟩,⟨rfl,rfl,.inl rfl⟩,trivial⟩) (λ_ _ _=>(Xbc (i:=0) (show List.Nodup (["_law_i","_law_most","_law_cells","_law_wide"]:List Str) by decide +kernel) rfl (Or.inr rfl))) (λ_ _ _=>(Yc4 rfl (Xde (by rfl) (by exact B.range) (Xaa (pv 3) Xac)) (N:=["_law_j","_law_most","_law_cells","_law_i","_law_wide"]) (ix:=[none,some 1,some 2,some 0,some 3]) (show Xb2 _ _ _ _ from⟨⟨rfl,rfl,.inl rfl⟩,⟨rfl,rfl,.inl rfl⟩,⟨rfl,rfl,.inl rfl⟩,⟨rfl,rfl,.inl rfl⟩,trivial⟩) (by rfl) (by decide +kernel) (by decide +kernel) (by decide +kernel) (λ_ _ _=>(Xbc (i:=0) (show List.Nodup (["_law_j","_law_most","_law_cells","_law_i","_law_wide"]:List Str) by decide +kernel) rfl (Or.inl rfl))) (λ_ _ _=>(Xaw Xea (Xba Xbk (pv 2) (Xaw Xdj (Xaw Xkk (pv 3) (pv 4)) (pv 0)) (λ_ _=>rfl)) (pv 1)))))))))),
  (Xao (Xa5 (Xty (Xb3 (Xak (Xa0 Xah) Xbn)) (Xap (Xaq Xc5 Xad Xad))))
   (Xao (Xfy (Xgp (Xaf (Xap (Xbl Xco (Xaf Xad Xan))) Xan)) Xbe (Xao (Xa5 (Xa0 (Xaq Xc5 Xad (Xap (Xbl Xco (Xaf Xad Xan))))))
   (Xnb (Xa0 (Xaq Xc5 (Xap (Xaq Xcl (Xap (Xaq Xc5 (Xca (OpF.b Xb4) Xad Xad) (Xap Xah))) (Xca (OpF.b Xb4) Xad Xad))) (Xap (Xaq Xcl (Xap (Xaq Xc5 (Xap Xah) Xad)) (Xap Xah))))) Xad)))
   (Xyx 4 (Xa2 (Xc4 (Xgp (Xaf Xad Xan)) Xbe (Xc4 (Xgp (Xaf Xad Xan)) Xbe (Xa0 (Xaq Xcl (Xca (OpF.b Xb4) Xad (Xap (Xaq Xcl (Xap (Xaq Xc5 Xad Xad)) Xad))) Xad)))))))),?_⟩)
 rintro ds Pr ⟨ns,h,w',mo,rfl,hl,⟨h0,hh,w0,hw⟩,⟨m0,m1⟩,k⟩
 have hm:h*w'<=4096:=mul_le_mul hh hw
 have hm0:0<h*w':=mul_pos h0 w0
 gn_on
 rw[<- Int.natCast_mul]
 refine⟨.inl ⟨by lia,by lia⟩,⟨by lia,by lia⟩,?_⟩
 rw[toNat_natCast]
 gp_on
 gn_on
 refine⟨⟨by lia,by lia⟩,λn δ=>∃(cs:List Int) (o5 o6:Option Sl),δ=[vD (.lst (ns.map .int)),vI h,vI w',vI mo,some (.own (.nl (cs.map λc=>.fz (.int c)))),o5,o6]/\cs.length=h*w'/\∀c∈cs,0<=c/\c<2*mo+1,⟨List.replicate (h*w') 0,none,none,?_,by simp,λc hc=>?_⟩,?_,?_⟩
 .rw [List.map_replicate]
 .rw [(mem_replicate.mp hc).2]
  exact⟨Int.le_refl _,by lia⟩
 .rintro n d δ hd ⟨cs,o5,o6,rfl,hcl,hcr⟩
  obtain⟨hn,rfl⟩:=Xgr hd
  simp only[gN,set_cons_succ,set_cons_zero]
  gn_on
  rw[hcl]
  refine⟨by lia,?_⟩
  have ha0:0<=(0+(n:Int)*1)%((h*w':Nat):Int):=emod_nonneg _ (by lia)
  have ha1:(0+(n:Int)*1)%((h*w':Nat):Int)<((h*w':Nat):Int):=emod_lt_of_pos _ (by lia)
  generalize (0+(n:Int)*1)%((h*w':Nat):Int)=at' at ha0 ha1
  gp_on
  fin2
  refine⟨_,Xha ha0 (by rw[hcl];exact ha1),.inr ⟨by decide,by decide⟩,_,Xha (by lia) (by lia),by lia,at'.toNat,by rw[hcl];exact Yfb ha0 ha1,_,_,_,rfl,by rw[length_set];exact hcl,λc hc=>?_⟩
  rcases List.mem_or_eq_of_mem_set hc with z |z
  .exact hcr c z
  .rw [z]
   exact⟨emod_nonneg _ (by lia),emod_lt_of_pos _ (by lia)⟩
 .rintro δ ⟨cs,o5,o6,rfl,hcl,hcr⟩
  gp_on
  fin2
  refine⟨⟨by lia,by lia⟩,?_⟩
  refine Xmu.rng (λi=>.nl (tab w' λj=>.fz (.int (if i<h/\j<w' then cs.getD (i*w'+j) 0-mo else 0)))) (by lia) (λi hi Q q=>?_) ?_
  .fin2
   refine⟨⟨by lia,by lia⟩,?_⟩
   refine Xmu.rng (λj=>.fz (.int (if i<h/\j<w' then cs.getD (i*w'+j) 0-mo else 0))) (by lia) (λj hj Q q=>?_) ?_
   .fin2
    have hlt:i*w'+j<h*w':=by
     have:=Nat.mul_le_mul_right w' (show i+1<=h by lia)
     rw[succ_mul]at this
     lia
    have eI:(0+(i:Int)*1)*(w':Int)+(0+(j:Int)*1)=((i*w'+j:Nat):Int):=by
     rw[zero_add,mul_one,zero_add,mul_one,Int.natCast_add,Int.natCast_mul]
    refine⟨.inl ⟨by lia,by lia⟩,?_⟩
    rw[eI]
    refine⟨_,Xha (by lia) (by rw[hcl];lia),?_⟩
    rw[if_pos ⟨by lia,by lia⟩]at q
    exact q
   .exact q
  .refine k (λi j=>if i<h/\j<w' then cs.getD (i*w'+j) 0-mo else 0) λi j=>?_
   try dsimp only
   split
   .rename_i z
    have hlt:i*w'+j<h*w':=by
     have:=Nat.mul_le_mul_right w' (show i+1<=h by lia)
     rw[succ_mul]at this
     lia
    have:=hcr _ (getElem_mem (by rw[hcl];exact hlt))
    rw[getD_eq_getElem?_getD,getElem?_eq_getElem (by rw[hcl];exact hlt)]
    show -mo<=cs[i*w'+j]-mo/\cs[i*w'+j]-mo<=mo
    lia
   .lia
theorem Yp0 (i:Int)(h0:0<=i)(h4:i<4):∃fs:List Lf,fs.length<=3/\(∀f∈fs,f.Ok)/\∃x:Str,atI [D.str (Str.ofString "still"),D.str (Str.ofString "pair"),D.str (Str.ofString "line"),D.str (Str.ofString "long")] i=some (.str x)/\Yn1.lookup x=some (Xog fs):=by
 have ok:∀h l r a s:Int,(h=0∨h=1)->(-8<=l/\l<=8)->(-8<=r/\r<=8)->(-64<=a/\a<=64)->(0<=s/\s<=8)->(⟨h,l,r,a,s⟩:Lf).Ok:=λh l r a s h1 h2 h3 h4 h5=>⟨h1,h2,h3,h4,h5⟩
 have o1:=ok 1 (-1) 0 0 0 (.inr rfl) (by decide) (by decide) (by decide) (by decide)
 have o2:=ok 0 0 1 0 1 (.inl rfl) (by decide) (by decide) (by decide) (by decide)
 have o3:=ok 1 (-1) (-1) 1 1 (.inr rfl) (by decide) (by decide) (by decide) (by decide)
 have o4:=ok 0 1 1 2 2 (.inl rfl) (by decide) (by decide) (by decide) (by decide)
 have o5:=ok 1 (-1) (-1) 4 3 (.inr rfl) (by decide) (by decide) (by decide) (by decide)
 rcases (show i=0∨i=1∨i=2∨i=3 by lia) with rfl |rfl |rfl |rfl
 .exact ⟨[],by decide,(λf hf=>by cases hf),_,rfl,rfl⟩
 .refine ⟨[⟨1,-1,0,0,0⟩,⟨0,0,1,0,1⟩],by decide,λf hf=>?_,_,rfl,rfl⟩
  simp only[mem_cons,not_mem_nil,or_false]at hf
  rcases hf with rfl |rfl
  .exact o1
  .exact o2
 .refine ⟨[⟨1,-1,-1,1,1⟩,⟨0,1,1,2,2⟩],by decide,λf hf=>?_,_,rfl,rfl⟩
  simp only[mem_cons,not_mem_nil,or_false]at hf
  rcases hf with rfl |rfl
  .exact o3
  .exact o4
 .refine ⟨[⟨1,-1,-1,1,1⟩,⟨0,1,1,2,2⟩,⟨1,-1,-1,4,3⟩],by decide,λf hf=>?_,_,rfl,rfl⟩
  simp only[mem_cons,not_mem_nil,or_false]at hf
  rcases hf with rfl |rfl |rfl
  .exact o3
  .exact o4
  .exact o5
theorem Ydc {w:Nat}{e:Nat->Nat->Int}:(Xk6 h w e fs L).length=h*w:=by
 unfold Xk6
 rw[length_map,Xjo]
abbrev Xhu:Stmt:=top 100
theorem Xdc:FnScope ["_law_cell","_law_names","_law_some","_law_k"] ["_law_cell"] (Xae Xhu):=by walk_at "S"
theorem Xqm (Df:DefAt K mg "_law_ladder" Xhu f fd)(B:BltV mg)(KV:KitV K)(Xdn:Cal P w K mg base "ladder_of" 1 ["name"] (spV K 1 Xhl)):
  Cal P w K mg base "_law_ladder" 2 ["_law_cell"] (spV K 1 Xj3):=by
 refine CalV.of Df Xdc (by walk_at "b") rfl (λc A o s H E hr=>⟨_,_,(Xag (Xa4 (i:=1) Xdc.nd rfl (Or.inl rfl) (Xbm (Xaa Xat (Xaa Xat (Xaa Xat (Xaa Xat Xac))))))
   (Xag (Xb0 (Xbb Xt9 (Xaw Xb9 (pv 0) Xal) Xal (Xbf _)) (Xaj (Xaz (Xa6 Xdn (hr.mono (by decide)) (by rfl) (Xaa (Xba Xbk (pv 1) (Xaw Xb9 (pv 0) Xal) (λ_ _=>rfl)) Xac)))) Xa8)
   (Xag (Xa4 (i:=2) Xdc.nd rfl (Or.inl rfl) (Xbm Xac))
   (Xag (Xfz PassesOwn.never rfl (Xde (by rfl) (by exact B.range) (Xaa (Xaw Xea (Xaw Xb9 (pv 0) Xal) Xal) Xac)) (Xbc (i:=3) Xdc.nd rfl (Or.inl rfl)) (Xag (Xa4 (i:=0) Xdc.nd rfl (Or.inl rfl) (Xaw Xdm (pv 0) Xal))
   (Xaj (Xbs (Xdb plainAttrs_list PySem.F.slot_list_append PySem.F.type_list_append Xcb (pv 2) (Xaa (Xbw (Xaa (Xaw Xb9 (pv 0) Xal) (Xaa (Xaw Xea (Xaw Xb9 (Xaw Xdm (pv 0) Xal) Xal) Xal) (Xaa (Xaw Xea (Xaw Xb9 (Xaw Xdm (pv 0) Xal) Xal) Xal) (Xaa (Xaw Xea (Xaw Xb9 (Xaw Xdm (pv 0) Xal) Xal) Xal) (Xaa (Xaw Xb9 (Xaw Xdm (pv 0) Xal) Xal) Xac)))))) Xac))))))
   (Xaj (Xaz (Xdg Xg0 (by rfl) B.tuple PyProof.Rows.boot_tuple (Xaa (pv 2) Xac)))))))),
  (Xao (Xa5 (Xa0 (Xby (Xb3 (Xak (Xa0 Xas) (Xak (Xa0 Xas) (Xak (Xa0 Xas) (Xak (Xa0 Xas) Xbn))))))))
   (Xao (Xcd (Xa9 (Xaq Xhf (Xap (Xaq Xc5 Xad (Xap Xah))) (Xap Xah))) (Xa2 (Xa1 (Xab (Xbo Xb4 Xai (Xaq Xc5 Xad (Xap Xah))) Xam))) Xa7)
   (Xao (Xa5 (Xb3 Xbn))
   (Xao (Xfy (Xgp (Xaf (Xap (Xaq Xcl (Xap (Xaq Xc5 Xad (Xap Xah))) (Xap Xah))) Xan)) Xbe (Xao (Xa5 (Xa0 (Xaq Xc5 Xad (Xap Xah))))
   (Xvb (Xa0 (Xcp (Xab (Xaq Xc5 Xad (Xap Xah)) (Xab (Xaq Xcl (Xap (Xaq Xc5 (Xap (Xaq Xc5 Xad (Xap Xah))) (Xap Xah))) (Xap Xah)) (Xab (Xaq Xcl (Xap (Xaq Xc5 (Xap (Xaq Xc5 Xad (Xap Xah))) (Xap Xah))) (Xap Xah)) (Xab (Xaq Xcl (Xap (Xaq Xc5 (Xap (Xaq Xc5 Xad (Xap Xah))) (Xap Xah))) (Xap Xah)) (Xab (Xaq Xc5 (Xap (Xaq Xc5 Xad (Xap Xah))) (Xap Xah)) Xam))))))))))
   (Xyx 2 (Xa2 (Yko Xwd (Xab Xai Xam)))))))),?_⟩)
 rintro ds Pr ⟨c,rfl,k⟩
 gn_on
 gp_on
 gn_on
 split
 .obtain ⟨fs,f1,f2,x,f3,f4⟩:=Yp0 (c%6) (by lia) (by omega)
  exact⟨_,f3,x,_,rfl,f4,k fs (by lia) f2⟩
 gp_on
 gn_on
 gp_on
 gn_on
 have hr:0<=c%6-3/\c%6-3<=6:=by lia
 generalize c%6-3=rr at hr
 generalize [D.str (Str.ofString "still"),D.str (Str.ofString "pair"),D.str (Str.ofString "line"),D.str (Str.ofString "long")]=named
 refine⟨⟨by lia,by lia⟩,λi δ=>∃(c:Int) (fs:List Lf) (o:Option Sl),δ=[vI c,vD (.lst named),some (.own (.nl (fs.map λf=>.fz (lfD f)))),o]/\(∀f∈fs,f.Ok)/\fs.length=i,⟨c,[],none,rfl,(λf hf=>by cases hf),rfl⟩,?_,?_⟩
 .rintro i d δ hd ⟨c,fs,o,rfl,ok,hfl⟩
  obtain⟨hi,rfl⟩:=Xgr hd
  simp only[gN,set_cons_succ,set_cons_zero]
  gn_on
  generalize c / 6=c
  gp_on
  fin2
  refine⟨by lia,c,fs++[⟨c%2,c / 2%17-8,c / 34%17-8,c / 578%129-64,c / 74562%9⟩],some (Sl.own (OV.fz (D.int (0+(i:Int)*1)))),?_,λf hf=>?_,by simp[hfl]⟩
  .rw [map_append]
   rfl
  .rcases mem_append.mp hf with z |z
   .exact ok f z
   .rw [mem_singleton.mp z]
    exact⟨by show c%2=0∨c%2=1;lia,⟨by show -8<=c / 2%17-8;lia,by show c / 2%17-8<=8;lia⟩,⟨by show -8<=c / 34%17-8;lia,by show c / 34%17-8<=8;lia⟩,⟨by show -64<=c / 578%129-64;lia,by show c / 578%129-64<=64;lia⟩,⟨by show 0<=c / 74562%9;lia,by show c / 74562%9<=8;lia⟩⟩
 .rintro δ ⟨c,fs,o,rfl,ok,hfl⟩
  rw[Xew]at hfl
  gp_on
  fin2
  rw[map_map]
  exact k fs (by lia) ok
abbrev Xje:Stmt:=top 97
theorem Xc8:FnScope ["text","words","head","bits","walk","behind"] ["text"] (Xae Xje):=by walk_at "S"
theorem Xse (Df:DefAt K mg "read_text" Xje f fd)(B:BltV mg)(KV:KitV K)(h_NoText:nsIn K mainGlobals "NoText"=some (some (.ref C_NoText)))(O_NoText:PyProof.Rows.OwnCls "NoText" C_NoText [.type "ValueError",.type "Exception",.type "BaseException",.type "object"] "ValueError.__new__" mg base)(CV_Walk:ClsV K "Walk" Xbd)(Xuj:∃t,mg "WORDS"=some (.int 7 t))(Xpr:∃t,mg "NAME"=some (.str "liftwave" t))(Xe1:∃t,mg "LETTERS_texts"=some (.int 6 t))(Xju:CalX P w K mg base "read_head" 5 ["words"] (spX K 1 Xlk))(Xlb:CalX P w K mg base "unpacked" 2 ["letters"] (spX K 1 Xm0))(Xn3:Cal P w K mg base "walk_of" 7 ["head","bits"] (spV K 2 Xo9))(Xbp:CalM P w K mg base "Walk" "is_whole" 1 ["self"] (spV K 1 Xcy)):
  CalX P w K mg base "read_text" 8 ["text"] (spX K 1 Xhk):=by
 refine CalXV.of Df Xc8 (by walk_at "b") rfl (λcdv A outer s H E hr F Xc hE=>⟨_,_,(Xag (Xa4 (i:=1) Xc8.nd rfl (Or.inl rfl) (Xdb plainAttrs_str slot_str_split type_str_split Xmn (pv 0) (Xaa Xat Xac)))
   (Xag (Xb0 (Xop (Xbb Xt8 (Xar Xax (by rfl) B.len boot_len (Xaa (pv 1) Xac)) (Xau (by rfl) Xuj) (Xbf _)) (Xi8 (Xbb Xt8 (Xba Xbk (pv 1) Xal (λ_ _=>rfl)) (Xfd (by rfl) Xpr) (Xbf _)))).pt (Xaj (Xim (by rfl) O_NoText excBase_ValueError hr.hd Xat)) Xa8)
   (Xag (Xa4 (i:=2) Xc8.nd rfl (Or.inl rfl) (Xt6 rfl Xju (hr.mono (by decide)) (by rfl) (Xaa (pv 1) Xac)))
   (Xag (Xa4 (i:=3) Xc8.nd rfl (Or.inl rfl) (Xt6 rfl Xlb (hr.mono (by decide)) (by rfl) (Xaa (Xba Xbk (pv 1) (Xau (by rfl) Xe1) (λ_ _=>rfl)) Xac)))
   (Xag (Xa4 (i:=4) Xc8.nd rfl (Or.inl rfl) (Xa6 Xn3 (hr.mono (by decide)) (by rfl) (Xaa (pv 2) (Xaa (pv 3) Xac))))
   (Xag (Xa4 (i:=5) Xc8.nd rfl (Or.inl rfl) (Xdf Xln (pv 3) (Xdd (Xc9 (pv 4) rfl)) Xhy))
   (Xag (Xb0 (Xop (Xbb Yc8 (Xar Xce (by rfl) B.len boot_len (Xaa (pv 5) Xac)) Xal (Xbf _)) (Xi8 (Xbb Xzu Xat (pv 5) (by rfl)))).pt (Xaj (Xim (by rfl) O_NoText excBase_ValueError hr.hd Xat)) Xa8)
   (Xaj (Xaz (Xbw (Xaa (pv 2) (Xaa (Xdf Xln (pv 3) Xhy (Xdd (Xc9 (pv 4) rfl))) (Xaa (Xin Xbp (hr.mono (by decide)) (pv 4)) Xac))))))))))))),
  (Xev (Xc3.x (Xa5 (Xa0 (Xby (Xmh Xad (Xap Xas))))))
   (Xev (Xwy (Xoo (Xa9 (Xaq Xud (Xap (Xbl Xco (Xaf Xad Xan))) (Xap Xah))) (Xa9 (Xaq Xud (Xca (OpF.b Xb4) Xad (Xap Xah)) (Xap Xas)))) (Xik h_NoText hE (Xap Xas)) (Xc3.x Xa7))
   (Xev (Xvc (Ycj (Xtx hE (Xab Xai Xam))))
   (Xev (Xvc (Ycj (Xtx hE (Xab (Xbo Xb4 Xai Xah) Xam))))
   (Xev (Xc3.x (Xa5 (Xa1 (Xab Xai (Xab Xai Xam)))))
   (Xev (Xc3.x (Xa5 (Xa0 (Xlr Xai (Xkc (Xhd (j:=1) CV_Walk (by rfl) Xad)) Xrw))))
   (Xev (Xwy (Xoo (Xa9 (Xaq Xhf (Xap (Xbl Xif (Xaf Xad Xan))) (Xap Xah))) (Xa9 (Xaq Ylk (Xap Xas) Xad))) (Xik h_NoText hE (Xap Xas)) (Xc3.x Xa7))
   (Xc3.x (Xa2 (Xa0 (Xcp (Xab Xai (Xab (Xlr Xai Xrw (Xkc (Xhd (j:=1) CV_Walk (by rfl) Xad))) (Xab (Xby (Xmi CV_Walk (by decide +kernel) Xad Xan)) Xam)))))))))))))),?_⟩)
 rintro ds Pr ⟨s,rfl,hs,k⟩
 gn_on
 refine⟨by decide +kernel,hs,?_⟩
 rw[map_map,Xdz,show ((OV.val∘λs=>OV.fz (D.str s)):Str->D)=D.str from rfl]
 rcases k with⟨h7,k⟩ | ⟨w0,w1,w2,w3,w4,w5,w6,e,k⟩
 .gp_on
  gn_on
  rw[if_pos (by rw[decide_eq_false (by lia)];rfl)]
  exact k
 rw[e]
 gp_on
 gn_on
 rw[if_neg (by simp)]
 rcases k with⟨z,k⟩ | ⟨z,hx,k⟩
 .rw [if_pos (by rw[decide_eq_false z];rfl)]
  exact k
 rw[if_neg (by rw[decide_eq_true z];decide)]
 gp_on
 gn_on
 refine⟨w0,w1,w2,w3,w4,w5,w6,rfl,hx,?_⟩
 have go:∀a b c d lss,Rb a b c d lss w6 (λd=>Pr (.fz d)) (Xc (Str.ofString "NoText"))->N [vD (.str s),vD (.lst ([w0,w1,w2,w3,w4,w5,w6].map D.str)),vD (hdI a b c d lss),none,none,none]:=by
  clear k
  rintro a b c d lss ⟨cs,rfl,hcl,k⟩
  gp_on
  gn_on
  refine⟨_,rfl,cs,rfl,hcl,?_⟩
  rcases k with⟨z,k⟩ | ⟨z,h',w',n',u,v,rfl,rfl,rfl,hh,hn,F,hu,u1,k⟩
  .rw [if_neg z]
   exact k
  rw[if_pos z,<- Xig]
  have hbl:(ltB cs).length<=960000:=by rw[Ye2];lia
  rw[show (cs.flatMap λc=>fr (c-97))=ltB cs from rfl]
  generalize ltB cs=bs at k F u1 hbl
  gp_on
  gn_on
  refine⟨h',w',n',_,_,bs,v,rfl,hh,hn,F,?_⟩
  gp_on
  gn_on
  refine⟨.int v.us,rfl,?_⟩
  rw[hu]
  refine⟨by rw[Xd1];lia,?_⟩
  have eb:Txt.slice (Xbt bs) (some (u:Int)) none=Xbt (bs.drop u):=by
   rw[Xig,Xpu _ (by rw[Xbv,length_map];exact u1),Xig]
   show tx ((bs.map bch).drop _)=_
   rw[<- map_drop]
  have et:Txt.slice (Xbt bs) none (some (u:Int))=Xbt (bs.take u):=Ycb _ u1
  have eo:(!(Builtin.Str.occurrences (Xbt (bs.drop u)) (Str.ofString "1") 0 (Xbt (bs.drop u)).length 1).isEmpty)=decide (true∈bs.drop u):=by
   rw[show Str.ofString "1"=⟨#[49]⟩ by decide +kernel,PySem.StrLaws.found_one,Xig]
   refine decide_eq_decide.mpr ⟨λh=>?_,λh=>?_⟩
   .obtain ⟨b,hb,e⟩:=mem_map.mp (show 49∈(bs.drop u).map bch from h)
    cases b with
    |true=>exact hb
    |false=>cases e
   .exact mem_map.mpr ⟨true,h,rfl⟩
  have el:(Xbt (bs.drop u)).length=bs.length-u:=by rw[Xd1,length_drop]
  rw[eb]
  gp_on
  gn_on
  rw[eo,el]
  refine⟨by lia,?_⟩
  rcases k with⟨h1,k⟩ | ⟨h1,h2,k⟩
  .by_cases z1:bs.length > u+3
   .rw [if_pos (by lia)]
    exact k
   .rw [if_neg (by lia),if_pos (decide_eq_true (h1.resolve_left z1))]
    exact k
  rw[if_neg (by lia),if_neg (by rw[decide_eq_false h2];decide)]
  gp_on
  fin2
  refine⟨.int v.us,rfl,?_⟩
  rw[hu]
  dsimp only
  rw[et]
  exact⟨by rw[Xd1];lia,v,by rw[OV.vals_eq],by rfl,k⟩
 rcases k with⟨h1,k⟩ | ⟨a,b,c,d,h1,k⟩
 .exact .inl ⟨h1,k⟩
 .refine .inr ⟨a,b,c,d,h1,?_⟩
  rcases k with⟨h2,k⟩ | ⟨lss,h2,k⟩
  .exact .inl ⟨h2,k⟩
  .refine .inr ⟨lss,h2,?_⟩
   by_cases z:Xl9 a b c d lss=true
   .rw [if_pos z]at k ⊢
    exact go a b c d lss k
   .rw [if_neg z]at k ⊢
    exact k
theorem pick {ds:List D}{i:Int}{f:Str->Bool}(h0:0<=i)(h1:i<ds.length)(h:(ds.all λd=>match d with
  | .str w=>f w
  |_=>false)=true):∃w,atI ds i=some (.str w)/\f w=true:=by
 have hlt:i.toNat<ds.length:=by lia
 have hm:=all_eq_true.mp h _ (getElem_mem hlt)
 have e:atI ds i=some ds[i.toNat]:=by
  have:=Xc7 (xs:=ds) (getElem?_eq_getElem hlt)
  rw[toNat_of_nonneg h0]at this
  exact this
 rw[e]
 split at hm
 .rename_i w hw
  exact⟨w,by rw[hw],hm⟩
 .cases hm
theorem Yc0 {ds:List D}{i:Int}{f:Str->Bool}{P:D->Prop}(h0:0<=i)(h1:i<ds.length)(h:(ds.all λd=>match d with
  | .str w=>f w
  |_=>false)=true)(k:∀w,f w=true->P (.str w)):∃d,atI ds i=some d/\P d:=by
 obtain⟨w,e,hw⟩:=pick h0 h1 h
 exact⟨_,e,k w hw⟩
theorem Yje (h0:0<=i)(h1:i<xs.length):∃c∈xs,atI xs i=some c:=by
 have hlt:i.toNat<xs.length:=by lia
 have:=Xc7 (getElem?_eq_getElem hlt)
 rw[toNat_of_nonneg h0]at this
 exact⟨_,getElem_mem hlt,this⟩
abbrev Xd5:Stmt:=top 102
theorem Xdk:FnScope ["_law_place","_law_cell","_law_some"] ["_law_place","_law_cell"] (Xae Xd5):=by walk_at "S"
theorem Xk4 (Df:DefAt K mg "_law_odd_number" Xd5 f fd)(B:BltV mg)(KV:KitV K):
  Cal P w K mg base "_law_odd_number" 1 ["_law_place","_law_cell"] (spV K 2 Xfu):=by
 refine CalV.of Df Xdk (by walk_at "b") rfl (λc A o s H E hr=>⟨_,_,(Xag (Xa4 (i:=2) Xdk.nd rfl (Or.inl rfl) (Xbm (Xaa Xat (Xaa Xat (Xaa Xat (Xaa Xat (Xaa Xat (Xaa Xat (Xaa Xat (Xaa Xat (Xaa Xat (Xaa Xat (Xaa Xat (Xaa Xat (Xaa Xat (Xaa Xat Xac))))))))))))))))
   (Xag (Xa4 (i:=2) Xdk.nd rfl (Or.inl rfl) (Xaw Xfl (pv 2) (Xbm (Xaa Xat (Xaa (Xba Xbk (Xbm (Xaa Xat (Xaa Xat (Xaa Xat (Xaa Xat Xac))))) (pv 0) (λ_ _=>rfl)) (Xaa (Xba Xbk (Xbm (Xaa Xat (Xaa Xat (Xaa Xat (Xaa Xat Xac))))) (pv 0) (λ_ _=>rfl)) (Xaa Xat Xac)))))))
   (Xaj (Xaz (Xba Xbk (pv 2) (Xaw Xb9 (pv 1) (Xar Xax (by rfl) B.len boot_len (Xaa (pv 2) Xac))) (λ_ _=>rfl)))))),
  (Xao (Xa5 (Xa0 (Xby (Xb3 (Xak (Xa0 Xas) (Xak (Xa0 Xas) (Xak (Xa0 Xas) (Xak (Xa0 Xas) (Xak (Xa0 Xas) (Xak (Xa0 Xas) (Xak (Xa0 Xas) (Xak (Xa0 Xas) (Xak (Xa0 Xas) (Xak (Xa0 Xas) (Xak (Xa0 Xas) (Xak (Xa0 Xas) (Xak (Xa0 Xas) (Xak (Xa0 Xas) Xbn))))))))))))))))))
   (Xao (Xa5 (Xa0 (Xby (Xgo Xai (Xby (Xb3 (Xak (Xa0 Xas) (Xak (Xa0 (Xbo Xb4 (Xby (Xb3 (Xak (Xa0 Xas) (Xak (Xa0 Xas) (Xak (Xa0 Xas) (Xak (Xa0 Xas) Xbn)))))) Xai)) (Xak (Xa0 (Xbo Xb4 (Xby (Xb3 (Xak (Xa0 Xas) (Xak (Xa0 Xas) (Xak (Xa0 Xas) (Xak (Xa0 Xas) Xbn)))))) Xai)) (Xak (Xa0 Xas) Xbn))))))))))
   (Xa2 (Xa0 (Xbo Xb4 Xai (Xaq Xc5 Xad (Xap (Xbl Xco (Xaf Xad Xan))))))))),?_⟩)
 rintro ds Pr ⟨p,c,q,rfl,hq,k⟩
 have hp:p<4:=(List.getElem?_eq_some_iff.mp hq).1
 have h0:0<=c%18:=by lia
 have h1:c%18<18:=by lia
 rcases (show p=0∨p=1∨p=2∨p=3 by lia) with rfl |rfl |rfl |rfl<;>cases hq
 all_goals
  fin2
  refine⟨_,rfl,_,rfl,by decide,?_⟩
  exact Yc0 h0 h1 (by decide +kernel) k
abbrev Xer:Stmt:=top 103
theorem Xch:FnScope ["_law_cell","_law_some"] ["_law_cell"] (Xae Xer):=by walk_at "S"
theorem Xl5 (Df:DefAt K mg "_law_odd_lifts" Xer f fd)(B:BltV mg)(KV:KitV K):
  Cal P w K mg base "_law_odd_lifts" 1 ["_law_cell"] (spV K 1 Xhc):=by
 refine CalV.of Df Xch (by walk_at "b") rfl (λc A o s H E hr=>⟨_,_,(Xag (Xa4 (i:=1) Xch.nd rfl (Or.inl rfl) (Xbm (Xaa Xat (Xaa Xat (Xaa Xat (Xaa Xat (Xaa Xat (Xaa Xat (Xaa Xat (Xaa Xat Xac))))))))))
   (Xag (Xa4 (i:=1) Xch.nd rfl (Or.inl rfl) (Xaw Xfl (pv 1) (Xbm (Xaa Xat (Xaa Xat (Xaa Xat (Xaa Xat (Xaa Xat (Xaa Xat (Xaa Xat Xac))))))))))
   (Xag (Xa4 (i:=1) Xch.nd rfl (Or.inl rfl) (Xaw Xfl (pv 1) (Xbm (Xaa (Xdb plainAttrs_str slot_str_join type_str_join Xh2 Xat (Xaa (Xaw Xzt (Xbm (Xaa Xat Xac)) Xal) Xac)) (Xaa Xat (Xaa Xat (Xaa Xat (Xaa Xat (Xaa Xat Xac)))))))))
   (Xag (Xa4 (i:=1) Xch.nd rfl (Or.inl rfl) (Xaw Xfl (pv 1) (Xbm (Xaa Xat (Xaa Xat (Xaa Xat Xac))))))
   (Xaj (Xaz (Xba Xbk (pv 1) (Xaw Xb9 (pv 0) (Xar Xax (by rfl) B.len boot_len (Xaa (pv 1) Xac))) (λ_ _=>rfl)))))))),
  (Xao (Xa5 (Xa0 (Xby (Xb3 (Xak (Xa0 Xas) (Xak (Xa0 Xas) (Xak (Xa0 Xas) (Xak (Xa0 Xas) (Xak (Xa0 Xas) (Xak (Xa0 Xas) (Xak (Xa0 Xas) (Xak (Xa0 Xas) Xbn))))))))))))
   (Xao (Xa5 (Xa0 (Xby (Xgo Xai (Xby (Xb3 (Xak (Xa0 Xas) (Xak (Xa0 Xas) (Xak (Xa0 Xas) (Xak (Xa0 Xas) (Xak (Xa0 Xas) (Xak (Xa0 Xas) (Xak (Xa0 Xas) Xbn)))))))))))))
   (Xao (Xa5 (Xa0 (Xby (Xgo Xai (Xby (Xb3 (Xak (Xa0 (Xjn (Xap Xas) (Xap (Xby (Xty (Xb3 (Xak (Xa0 Xas) Xbn)) (Xap Xah)))))) (Xak (Xa0 Xas) (Xak (Xa0 Xas) (Xak (Xa0 Xas) (Xak (Xa0 Xas) (Xak (Xa0 Xas) Xbn))))))))))))
   (Xao (Xa5 (Xa0 (Xby (Xgo Xai (Xby (Xb3 (Xak (Xa0 Xas) (Xak (Xa0 Xas) (Xak (Xa0 Xas) Xbn)))))))))
   (Xa2 (Xa0 (Xbo Xb4 Xai (Xaq Xc5 Xad (Xap (Xbl Xco (Xaf Xad Xan))))))))))),?_⟩)
 rintro ds Pr ⟨c,rfl,k⟩
 fin2
 refine⟨List.replicate 7 (Str.ofString "0,1,1,0,1"),rfl,by decide +kernel,by decide,?_⟩
 exact Yc0 (show 0<=c%24 by lia) (show c%24<24 by lia) (by decide +kernel) k
abbrev Xgg:Stmt:=top 104
theorem Xi4:FnScope ["_law_cell","_law_some"] ["_law_cell"] (Xae Xgg):=by walk_at "S"
theorem Xou (Df:DefAt K mg "_law_strange" Xgg f fd)(B:BltV mg)(KV:KitV K):
  Cal P w K mg base "_law_strange" 1 ["_law_cell"] (spV K 1 Xfh):=by
 refine CalV.of Df Xi4 (by walk_at "b") rfl (λc A o s H E hr=>⟨_,_,(Xag (Xa4 (i:=1) Xi4.nd rfl (Or.inl rfl) Xat)
   (Xaj (Xaz (Xba Xs2 (pv 1) (Xaw Xb9 (pv 0) (Xar Xce (by rfl) B.len boot_len (Xaa (pv 1) Xac))) (λ_ _=>rfl))))),
  (Xao (Xa5 (Xa0 Xas))
   (Xa2 (Xa0 (Xbo Xsq Xai (Xaq Xc5 Xad (Xap (Xbl Xif (Xaf Xad Xan)))))))),?_⟩)
 rintro ds Pr ⟨c,rfl,k⟩
 fin2
 have hl:(Str.ofString "!\"#$&'()*+,-./0123456789:;<=>?@ABCDEFGHIJKLMNOPQRSTUVWXYZ[\\]^_`qrstuvwxyz{|}~").length=77:=by decide +kernel
 have ha:((Str.ofString "!\"#$&'()*+,-./0123456789:;<=>?@ABCDEFGHIJKLMNOPQRSTUVWXYZ[\\]^_`qrstuvwxyz{|}~").cps.toList.all λx=>(decide (x<97) ||decide (112<x)) && decide (x≠32))=true:=by decide +kernel
 generalize Str.ofString "!\"#$&'()*+,-./0123456789:;<=>?@ABCDEFGHIJKLMNOPQRSTUVWXYZ[\\]^_`qrstuvwxyz{|}~"=z at hl ha
 have hl2:z.cps.toList.length=77:=by rw[length_toList];exact hl
 rw[hl]
 refine⟨by decide,by decide,by decide,?_⟩
 obtain⟨x,hx,e⟩:=Yje (xs:=z.cps.toList) (i:=c%((77:Nat):Int)) (by lia) (by rw[hl2];lia)
 have:=all_eq_true.mp ha x hx
 simp only[and_eq_true,or_eq_true,decide_eq_true_eq]at this
 exact⟨x,e,k x this.1 this.2⟩
theorem Ym0 (c:Int):∃m:Nat,m<16/\atI (Str.ofString "abcdefghijklmnop").cps.toList (c%16)=some (97+m):=⟨(c%16).toNat,by lia,by
 have:=Yaf (n:=(c%16).toNat) (by lia)
 rw[toNat_of_nonneg (by lia)]at this
 exact this⟩
theorem Ye5 (ns:List Nat)(m:Nat):lT ns++⟨#[97+m]⟩=lT (ns++[m]):=by
 rw[ Xn9,<- List.map_singleton (f:=(97+·)),<- map_append]
theorem Xt5:∀(bs:List Bool) (z:Nat),(4-bs.length%4)%4=z->0<z->∃(ns:List Nat) (l:Nat),pk bs=ns++[l]/\∀j,0<j->j<2^z->l+j<16/\((ns++[l+j]).flatMap fr).take bs.length=bs/\bs.length<=((ns++[l+j]).flatMap fr).length/\true∈((ns++[l+j]).flatMap fr).drop bs.length
 |a :: b::c::d::r,z,hz,h0=>by
  obtain⟨ns,l,e,k⟩:=Xt5 r z (by rw[<- hz];simp only[length_cons];lia) h0
  refine⟨wor a b c d::ns,l,by show wor a b c d::pk r=_;rw[e];rfl,λj j0 j1=>?_⟩
  obtain⟨k1,k2,k3,k4⟩:=k j j0 j1
  have ef:(wor a b c d::ns++[l+j]).flatMap fr=a::b::c::d::(ns++[l+j]).flatMap fr:=by
   rw[cons_append,flatMap_cons,show fr (wor a b c d)=[a,b,c,d] by cases a<;>cases b<;>cases c<;>cases d<;>rfl]
   rfl
  rw[ef]
  generalize (ns++[l+j]).flatMap fr=B at k2 k3 k4
  refine⟨k1,?_,?_,?_⟩
  .show a::b::c::d::B.take r.length=_
   rw[k2]
  .simp only[length_cons]
   lia
  .exact k4
 | [],z,hz,h0=>by
  rw[<- hz]at h0
  exact absurd h0 (by decide)
 | [a],z,hz,h0=>by
  cases hz
  refine⟨[],_,rfl,λj j0 j1=>?_⟩
  have:j<8:=j1
  rcases (show j=1∨j=2∨j=3∨j=4∨j=5∨j=6∨j=7 by lia) with rfl |rfl |rfl |rfl |rfl |rfl |rfl<;>cases a<;>decide
 | [a,b],z,hz,h0=>by
  cases hz
  refine⟨[],_,rfl,λj j0 j1=>?_⟩
  have:j<4:=j1
  rcases (show j=1∨j=2∨j=3 by lia) with rfl |rfl |rfl<;>cases a<;>cases b<;>decide
 | [a,b,c],z,hz,h0=>by
  cases hz
  refine⟨[],_,rfl,λj j0 j1=>?_⟩
  have:j<2:=j1
  rcases (show j=1 by lia) with rfl
  cases a<;>cases b<;>cases c<;>decide
theorem Ydv (x:List Nat)(l:Nat):Txt.slice (tx (x++[l])) none (some (-1))=tx x:=by
 have e:Builtin.Str.strSliceIndices none (some (-1)) 1 (x.length+1)=Builtin.Str.strSliceIndices none (some (x.length:Int)) 1 (x.length+1):=by
  unfold Builtin.Str.strSliceIndices sliceRange
  have e0:¬ ((x.length:Int)<0):=by lia
  simp only[e0,if_false,show (-1:Int)<0 by decide,show (1:Int) > 0 by decide,if_true]
  have e1:max 0 (min (-1+((x.length+1:Nat):Int)) ((x.length+1:Nat):Int))=(x.length:Int):=by lia
  have e2:max 0 (min (x.length:Int) ((x.length+1:Nat):Int))=(x.length:Int):=by lia
  rw[e1,e2]
 have h:=Xu1 (tx (x++[l])) (i:=x.length) (by rw[Xbv,length_append];lia)
 unfold Txt.slice at h ⊢
 rw[Xbv,length_append,show [l].length=1 from rfl]at h ⊢
 rw[e,h]
 show tx ((x++[l]).take x.length)=tx x
 rw[List.take_left]
theorem Ya9 (bs:List Bool):(fl bs).take bs.length=bs:=by unfold fl;rw[List.take_left]
theorem Yma (bs:List Bool):bs.length<=(fl bs).length:=by unfold fl;rw[length_append];lia
abbrev Xhv:Stmt:=top 105
theorem Xf9:FnScope ["_law_letters","_law_bits","_law_cell","_law_lacks","_law_worth"] ["_law_letters","_law_bits","_law_cell"] (Xae Xhv):=by walk_at "S"
theorem Xqn (Df:DefAt K mg "_law_behind" Xhv f fd)(B:BltV mg)(KV:KitV K):
  Cal P w K mg base "_law_behind" 1 ["_law_letters","_law_bits","_law_cell"] (spV K 3 Xj4):=by
 refine CalV.of Df Xf9 (by walk_at "b") rfl (λc A o s H E hr=>⟨_,_,(Xag (Xa4 (i:=3) Xf9.nd rfl (Or.inl rfl) (Xaw Xb9 (Xw4 Xo5 (Xar Xce (by rfl) B.len boot_len (Xaa (pv 1) Xac))) Xal))
   (Xag (Xb0 (Xop (Xbb Xfk (pv 3) Xal (Xbf _)) (Xi8 (Xbb Xfk (Xaw Xb9 (pv 2) Xal) Xal (Xbf _)))).pt (Xaj (Xaz (Xaw Xf0 (pv 0) (Xba Xs2 Xat (Xaw Xb9 (Xaw Xdm (pv 2) Xal) Xal) (λ_ _=>rfl))))) Xa8)
   (Xag (Xa4 (i:=4) Xf9.nd rfl (Or.inl rfl) (Xaw Xdj (Xaw Xdj (Xaw Xea (Xar Xwb (by rfl) B.ord boot_ord (Xaa (Xba Xs2 (pv 0) (Xw4 Xo5 Xal) (λ_ _=>rfl)) Xac)) (Xar Xwb (by rfl) B.ord boot_ord (Xaa Xat Xac))) Xal) (Xaw Xb9 (Xaw Xdm (pv 2) Xal) (Xaw Xea (Xaw Xi9 Xal (pv 3)) Xal))))
   (Xaj (Xaz (Xaw Xf0 (Xdf Xln (pv 0) Xhy (Xdd (Xw4 Xo5 Xal))) (Xba Xs2 Xat (pv 4) (λ_ _=>rfl)))))))),
  (Xao (Xa5 (Xa0 (Xaq Xc5 (Xap (Xpi (Xap (Xbl Xif (Xaf Xad Xan))))) (Xap Xah))))
   (Xao (Xcd (Xoo (Xa9 (Xaq Xfm Xad (Xap Xah))) (Xa9 (Xaq Xfm (Xap (Xaq Xc5 Xad (Xap Xah))) (Xap Xah)))) (Xa2 (Xa0 (Xaq Xnm Xad (Xca (OpF.b Xsq) (Xap Xas) (Xap (Xaq Xc5 (Xap (Xaq Xc5 Xad (Xap Xah))) (Xap Xah))))))) Xa7)
   (Xao (Xa5 (Xa0 (Xaq Xcl (Xap (Xaq Xcl (Xap (Xaq Xcl (Xap (Xbl Yfv (Xaf (Xca (OpF.b Xsq) Xad (Xap (Xpi (Xap Xah)))) Xan))) (Xap (Xbl Yfv (Xaf (Xap Xas) Xan))))) (Xap Xah))) (Xap (Xaq Xc5 (Xap (Xaq Xc5 Xad (Xap Xah))) (Xap (Xaq Xcl (Xap (Xaq Xc5 (Xap Xah) Xad)) (Xap Xah))))))))
   (Xa2 (Xa0 (Xaq Xnm (Xap (Xlr Xai Xrw (Xkc (Xap (Xpi (Xap Xah)))))) (Xca (OpF.b Xsq) (Xap Xas) Xad))))))),?_⟩)
 rintro ds Pr ⟨bs,c,rfl,hl,k⟩
 gn_on
 have hz : -((Xbt bs).length:Int)%4=(((4-bs.length%4)%4:Nat):Int):=by rw[Xd1];lia
 rw[hz]
 refine⟨by rw[Xd1];lia,?_⟩
 have hpl:=Xqe bs hl
 have one:(Str.ofString "abcdefghijklmnop").length<=1000000/\∃c_1,atI (Str.ofString "abcdefghijklmnop").cps.toList (c / 3%16)=some c_1/\(lT (pk bs)).length+(⟨#[c_1]⟩:Str).length<=1000000/\Pr (OV.fz (D.str (lT (pk bs)++⟨#[c_1]⟩))):=by
  obtain⟨m,hm,e⟩:=Ym0 (c / 3)
  refine⟨by decide +kernel,_,e,?_,?_⟩
  .rw [Xbv,length_map]
   show (pk bs).length+1<=1000000
   lia
  .rw [Ye5]
   have ef:(pk bs++[m]).flatMap fr=fl bs++fr m:=by rw[List.flatMap_append,Xuo];simp
   have hg:=Yma bs
   have h4:(fl bs++fr m).length=(fl bs).length+4:=by rw[length_append];rfl
   refine k _ (λx hx=>?_) (by rw[length_append];exact Nat.le_refl _) ?_ ?_ ?_
   .rcases mem_append.mp hx with z |z
    .exact Ycy bs x z
    .rw [mem_singleton.mp z];exact hm
   .rw [ef,List.take_append_of_le_length hg,Ya9]
   .rw [ef];lia
   .rw [ef];exact .inl (by lia)
 gp_on
 gn_on
 split
 .exact one
 rename_i z0
 split
 .exact one
 have hz4:(4-bs.length%4)%4<4:=by lia
 have hz0:0<(4-bs.length%4)%4:=by lia
 obtain⟨ms,l,epk,key⟩:=Xt5 bs _ rfl hz0
 generalize (4-bs.length%4)%4=lk at hz4 hz0 key
 have h2p:1<2^lk:=Nat.one_lt_two_pow (by lia)
 have hlast:atI ((pk bs).map (λx=>97+x)) (-1)=some (97+l):=by
  rw[epk,map_append]
  unfold atI
  rw[length_append,length_map,length_map,show ixN (ms.length+[l].length) (-1)=some ms.length by
   unfold ixN
   simp only[length_cons,length_nil]
   rw[if_neg (by decide),if_pos (by lia)]
   congr 1
   lia]
  simp
 gp_on
 gn_on
 refine⟨by rw[Xbv,length_map];lia,_,hlast,rfl,by decide +kernel,⟨by lia,by lia,by decide⟩,?_,?_⟩
 .rw [toNat_natCast]
  have:(1:Int)<2^lk:=by exact_mod_cast h2p
  lia
 rw[toNat_natCast]
 have h2I:(1:Int)<2^lk:=by exact_mod_cast h2p
 have hm0:0<=c / 3%(1*2^lk-1):=emod_nonneg _ (by lia)
 have hm1:c / 3%(1*2^lk-1)<1*2^lk-1:=emod_lt_of_pos _ (by lia)
 obtain⟨j,hj⟩:∃j:Nat,c / 3%(1*2^lk-1)=(j:Int):=⟨(c / 3%(1*2^lk-1)).toNat,by omega⟩
 have hjl:j+1<2^lk:=by
  have e:((2^lk:Nat):Int)=2^lk:=by norm_cast
  lia
 rw[hj,show ((#[97+l].getD 0 0:Nat):Int)-(((Str.ofString "a").cps.getD 0 0:Nat):Int)+1+(j:Int)=((l+(j+1):Nat):Int) by
  rw[show (Str.ofString "a").cps.getD 0 0=97 by decide +kernel]
  show ((97+l:Nat):Int)-((97:Nat):Int)+1+(j:Int)=_
  lia]
 obtain⟨k1,k2,k3,k4⟩:=key (j+1) (by lia) hjl
 gp_on
 fin2
 have es:Txt.slice (lT (pk bs)) none (some (-1))=lT ms:=by
  rw[epk]
  show Txt.slice (tx ((ms++[l]).map (97+·))) none (some (-1))=_
  rw[map_append]
  exact Ydv _ _
 have hml:ms.length+1=(pk bs).length:=by rw[epk,length_append];rfl
 have hlen:(lT ms).length=ms.length:=by rw[Xbv,length_map]
 rw[es]
 refine⟨by rw[Xbv,length_map];lia,by decide +kernel,_,Yaf k1,?_,?_⟩
 .rw [hlen]
  show ms.length+1<=1000000
  lia
 .rw [Ye5]
  refine k _ (λx hx=>?_) (by rw[length_append,length_singleton];lia) k2 k3 (.inr k4)
  rcases mem_append.mp hx with z |z
  .exact Ycy bs x (by rw[epk];exact mem_append.mpr (.inl z))
  .rw [mem_singleton.mp z];exact k1
theorem Xi7 (hn:n.natAbs<=9999):rn (Xb6 n)=some (some n):=by
 obtain⟨l,hl⟩:=Yh5.ex n
 rw[show Xb6 n=tx l from hl.str]
 obtain⟨r,d,rfl⟩:=hl
 obtain⟨h1,h2,h3⟩:=Xx2 hn d
 unfold rn
 rw[h1,h2]
 rfl
theorem Xms {α β:Type}{f:Str->Option (Option α)}{g:β->Str}{a:β->α}:∀(xs:List β),(∀x∈xs,f (g x)=some (some (a x)))->Xir f (xs.map g)=some (some (xs.map a))
 | [],_=>rfl
 |x::xs,h=>by
  rw[map_cons,Xir,h x mem_cons_self,Xms xs λy hy=>h y (mem_cons_of_mem _ hy)]
  rfl
theorem Yhc (ok:f.Ok):rl (Xjq f)=some (some (lfN f)):=by
 unfold rl
 rw[show Txt.split (Xjq f) (Str.ofString ",")=(lfN f).map Xb6 by
  exact Xf3 44 _ (by simp) (λw hw=>by
   obtain⟨n,hn,rfl⟩:=mem_map.mp (show w∈[f.h,f.l,f.r,f.a,f.s].map Xb6 from hw)
   exact Xcw (by decide) (.inl (by decide))),Xms (g:=Xb6) (a:=id) (lfN f) (λx hx=>Xi7 (le_trans (Xqk ok x hx) (by decide))),map_id]
theorem Xvi (ok:∀f∈fs,f.Ok):Xy9 (Xl8 fs)=some (some (fs.map lfN)):=by
 unfold Xy9
 by_cases z:fs=[]
 .subst z
  rfl
 .rw [if_neg (Ydl z),show Txt.split (Xl8 fs) (Str.ofString ";")=fs.map Xjq by
   rw[Xl8,if_neg z]
   exact Xf3 59 _ (by simpa using z) (λw hw=>by
    obtain⟨f,hf,rfl⟩:=mem_map.mp hw
    exact Xsw f (by decide) (.inr (by decide))),Xms _ λf hf=>Yhc (ok f hf)]
theorem Yis {w:Nat}(hd:Yb5 h w L n fs):Xl9 h w L n (fs.map lfN)=true:=by
 obtain⟨⟨h1,h2⟩,⟨w1,w2⟩,hL,hn,hf,ok⟩:=hd
 unfold Xl9 Xci
 rw[Ye4 hf ok]
 simp
 omega
theorem Yit {w:Nat}(hd:Yb5 h w L n fs){P:Int->Int->Int->Int->List (List Int)->Prop}(k:P h w L n (fs.map lfN)):Rh (Xb6 h) (Xb6 w) (Xb6 L) (Xb6 n) (Xl8 fs) P X:=by
 refine .inr ⟨h,w,L,n,?_,.inr ⟨fs.map lfN,Xvi hd.2.2.2.2.2,by rw[if_pos (Yis hd)];exact k⟩⟩
 obtain⟨⟨h1,h2⟩,⟨w1,w2⟩,hL,hn,hf,ok⟩:=hd
 have:=Xms (a:=id) [(h:Int),w,L,n] (λx hx=>by
  simp only[mem_cons,not_mem_nil,or_false]at hx
  rcases hx with rfl |rfl |rfl |rfl<;>exact Xi7 (by lia))
 exact this
theorem Xvx {w:Nat}(hd:Yb5 h w L n fs):∀x∈[Xb6 h,Xb6 w,Xb6 L,Xb6 n,Xl8 fs],x.length<=600:=by
 obtain⟨⟨h1,h2⟩,⟨w1,w2⟩,hL,hn,hf,ok⟩:=hd
 have e1:=Xcn (n:=h) (by lia)
 have e2:=Xcn (n:=w) (by lia)
 have e3:=Xcn (n:=L) (by lia)
 have e4:=Xcn (n:=n) (by lia)
 have e5:=Yah hf ok
 intro x hx
 simp only[mem_cons,not_mem_nil,or_false]at hx
 rcases hx with rfl |rfl |rfl |rfl |rfl<;>lia
theorem Yiu (h w L n:Nat)(fs:List Lf):∀x∈[Xb6 h,Xb6 w,Xb6 L,Xb6 n,Xl8 fs],32∉x.cps.toList:=by
 intro x hx
 simp only[mem_cons,not_mem_nil,or_false]at hx
 rcases hx with rfl |rfl |rfl |rfl |rfl
 .exact Xcw (by decide) (.inl (by decide))
 .exact Xcw (by decide) (.inl (by decide))
 .exact Xcw (by decide) (.inl (by decide))
 .exact Xcw (by decide) (.inl (by decide))
 .exact Xvw fs (by decide) (.inl (by decide))
theorem Yaj (ns:List Nat):32∉(lT ns).cps.toList:=λz=>by
 obtain⟨n,hn,e⟩:=mem_map.mp (show 32∈ns.map (97+·) from z)
 omega
theorem Xst {α β:Type}(f:α->β):∀(l:List α) (i:Nat),(l.eraseIdx i).map f=(l.map f).eraseIdx i
 | [],_=>rfl
 |_::_,0=>rfl
 |a::l,i+1=>by
  show f a::(l.eraseIdx i).map f=f a::(l.map f).eraseIdx i
  rw[Xst f l i]
theorem Xz3 (h:Ym9 q x=true):x.length<=600/\32∉x.cps.toList/\(rn x=some none∨∃m,rn x=some (some m)/\Xci q m=false):=by
 unfold Ym9 at h
 simp only[and_eq_true,decide_eq_true_eq,not_eq_true',contains_eq_mem,decide_eq_false_iff_not]at h
 obtain⟨⟨h1,h2⟩,h3⟩:=h
 refine⟨h1,h2,?_⟩
 split at h3
 .rename_i e;exact .inl e
 .rename_i m e;exact .inr ⟨m,e,by simpa using h3⟩
 .cases h3
theorem Xvo (h:Yna x=true):x.length<=600/\32∉x.cps.toList/\(Xy9 x=some none∨∃m,Xy9 x=some (some m)/\Yb2 m=false):=by
 unfold Yna at h
 simp only[and_eq_true,decide_eq_true_eq,not_eq_true',contains_eq_mem,decide_eq_false_iff_not]at h
 obtain⟨⟨h1,h2⟩,h3⟩:=h
 refine⟨h1,h2,?_⟩
 split at h3
 .rename_i e;exact .inl e
 .rename_i m e;exact .inr ⟨m,e,by simpa using h3⟩
 .cases h3
theorem Yks {w:Nat}(hd:Yb5 h w L n fs)(hq:spH[p]?=some q)(hx:Ym9 q x=true){P:Int->Int->Int->Int->List (List Int)->Prop}(k:X):Rh (if p=0 then x else Xb6 h) (if p=1 then x else Xb6 w) (if p=2 then x else Xb6 L) (if p=3 then x else Xb6 n) (Xl8 fs) P X:=by
 have hp:p<4:=(List.getElem?_eq_some_iff.mp hq).1
 have hr:=Xvi hd.2.2.2.2.2
 obtain⟨⟨h1,h2⟩,⟨w1,w2⟩,hL,hn,hf,ok⟩:=hd
 have e1:=Xi7 (n:=h) (by lia)
 have e2:=Xi7 (n:=w) (by lia)
 have e3:=Xi7 (n:=L) (by lia)
 have e4:=Xi7 (n:=n) (by lia)
 obtain⟨_,_,o⟩:=Xz3 hx
 rcases (show p=0∨p=1∨p=2∨p=3 by lia) with rfl |rfl |rfl |rfl<;>cases hq<;>rcases o with o | ⟨m,o,om⟩
 .exact .inl ⟨by simp[Xir,o],k⟩
 .exact .inr ⟨m,w,L,n,by simp[Xir,o,e2,e3,e4],.inr ⟨_,hr,by rw[if_neg (by unfold Xl9;rw[om];simp)];exact k⟩⟩
 .exact .inl ⟨by simp[Xir,o,e1],k⟩
 .exact .inr ⟨h,m,L,n,by simp[Xir,o,e1,e3,e4],.inr ⟨_,hr,by rw[if_neg (by unfold Xl9;rw[om];simp)];exact k⟩⟩
 .exact .inl ⟨by simp[Xir,o,e1,e2],k⟩
 .exact .inr ⟨h,w,m,n,by simp[Xir,o,e1,e2,e4],.inr ⟨_,hr,by rw[if_neg (by unfold Xl9;rw[om];simp)];exact k⟩⟩
 .exact .inl ⟨by simp[Xir,o,e1,e2,e3],k⟩
 .exact .inr ⟨h,w,L,m,by simp[Xir,o,e1,e2,e3],.inr ⟨_,hr,by rw[if_neg (by unfold Xl9;rw[om];simp)];exact k⟩⟩
theorem Yhd {w:Nat}(hd:Yb5 h w L n fs)(hx:Yna x=true){P:Int->Int->Int->Int->List (List Int)->Prop}(k:X):Rh (Xb6 h) (Xb6 w) (Xb6 L) (Xb6 n) x P X:=by
 obtain⟨⟨h1,h2⟩,⟨w1,w2⟩,hL,hn,hf,ok⟩:=hd
 have e1:=Xi7 (n:=h) (by lia)
 have e2:=Xi7 (n:=w) (by lia)
 have e3:=Xi7 (n:=L) (by lia)
 have e4:=Xi7 (n:=n) (by lia)
 refine .inr ⟨h,w,L,n,by simp[Xir,e1,e2,e3,e4],?_⟩
 obtain⟨_,_,o⟩:=Xvo hx
 rcases o with o | ⟨m,o,om⟩
 .exact .inl ⟨o,k⟩
 .exact .inr ⟨_,o,by rw[if_neg (by unfold Xl9;rw[om];simp)];exact k⟩
theorem Xlu (ns:List Nat):ltB (ns.map (97+·))=ns.flatMap fr:=by
 unfold ltB
 rw[List.flatMap_map]
 congr 1
 funext n
 rw[show 97+n-97=n by lia]
theorem Xex (h0:ws≠[])(hl:(ws.map (·.length)).sum+ws.length<=1000000)(hf:∀x∈ws,32∉x.cps.toList)(h:ws.length≠7∨∃w0 w1 w2 w3 w4 w5 w6,ws=[w0,w1,w2,w3,w4,w5,w6]/\(w0≠Str.ofString "liftwave"∨(w0=Str.ofString "liftwave"/\(∀w∈[w1,w2,w3,w4,w5],w.length<=600)/\∀(P:D->Prop) (X:Prop),X->Rh w1 w2 w3 w4 w5 (λa b c d lss=>Rb a b c d lss w6 P X) X))):Yd3 (Str.join (tx [32]) ws):=by
 have e:Txt.split (Str.join (tx [32]) ws) (tx [32])=ws:=Xf3 32 ws h0 hf
 refine⟨?_,λP X x=>?_⟩
 .refine le_trans (PySem.StrLaws.join_length_le _ _) ?_
  rw[show (tx [32]).length=1 from rfl]
  lia
 .unfold Rt
  rw[e]
  rcases h with h | ⟨w0,w1,w2,w3,w4,w5,w6,rfl,h⟩
  .exact .inl ⟨h,x⟩
  .refine .inr ⟨w0,w1,w2,w3,w4,w5,w6,rfl,?_⟩
   rcases h with h | ⟨h1,h2,h3⟩
   .exact .inl ⟨h,x⟩
   .exact .inr ⟨h1,h2,h3 P X x⟩
abbrev Xgh:Stmt:=top 106
theorem Xcu:FnScope ["_law_words","_law_bits","_law_way","_law_cell","_law_letters","_law_at"] ["_law_words","_law_bits","_law_way","_law_cell"] (Xae Xgh):=by walk_at "S"
theorem Xov (Df:DefAt K mg "_law_spoiled" Xgh f fd)(B:BltV mg)(KV:KitV K)(Xd8:Cal P w K mg base "_law_odd_number" 1 ["_law_place","_law_cell"] (spV K 2 Xfu))(Xe3:Cal P w K mg base "_law_odd_lifts" 1 ["_law_cell"] (spV K 1 Xhc))(Xg4:Cal P w K mg base "_law_strange" 1 ["_law_cell"] (spV K 1 Xfh))(Xic:Cal P w K mg base "_law_behind" 1 ["_law_letters","_law_bits","_law_cell"] (spV K 3 Xj4)):
  Cal P w K mg base "_law_spoiled" 2 ["_law_words","_law_bits","_law_way","_law_cell"] (spV K 4 Xiw):=by
 refine CalV.of Df Xcu (by walk_at "b") rfl (λc A o s H E hr=>⟨_,_,(Xag (Xa4 (i:=0) Xcu.nd rfl (Or.inl rfl) (Xdg Xpt (by rfl) B.list PyProof.Rows.boot_list (Xaa (pv 0) Xac)))
   (Xag (Xb0 (Xbb Xfk (pv 2) Xal (Xbf _)) (Xaj (Xke (Xba Xbk (Xbm (Xaa Xat (Xaa Xat (Xaa Xat (Xaa Xat (Xaa Xat Xac)))))) (Xaw Xb9 (pv 3) Xal) (λ_ _=>rfl)) (Xls (pv 0) Xal Xec))) Xa8)
   (Xag (Xb0 (Ycv Yc7 Yc7 Xal (pv 2) Xal) (Xaj (Xke (Xa6 Xd8 (hr.mono (by decide)) (by rfl) (Xaa (Xaw Xea (pv 2) Xal) (Xaa (pv 3) Xac))) (Xls (pv 0) (pv 2) Xec))) Xa8)
   (Xag (Xb0 (Xbb Xfk (pv 2) Xal (Xbf _)) (Xaj (Xke (Xa6 Xe3 (hr.mono (by decide)) (by rfl) (Xaa (pv 3) Xac)) (Xls (pv 0) Xal Xec))) Xa8)
   (Xag (Xb0 (Xbb Xfk (pv 2) Xal (Xbf _)) (Xag (Xa4 (i:=4) Xcu.nd rfl (Or.inl rfl) (Xba Xbk (pv 0) Xal (λ_ _=>rfl)))
   (Xag (Xb0 (Xbb Xfk (Xaw Xb9 (Xaw Xdm (pv 3) Xal) Xal) Xal (Xbf _)) (Xaj (Xa4 (i:=4) Xcu.nd rfl (Or.inl rfl) (Xdf Xln (pv 4) Xhy (Xdd (Xaw Xb9 (Xaw Xdm (pv 3) Xal) (Xaw Xdj (Xar Xce (by rfl) B.len boot_len (Xaa (pv 4) Xac)) Xal)))))) Xa8)
   (Xag (Xa4 (i:=5) Xcu.nd rfl (Or.inl rfl) (Xaw Xb9 (pv 3) (Xaw Xdj (Xar Xce (by rfl) B.len boot_len (Xaa (pv 4) Xac)) Xal)))
   (Xaj (Xke (Xaw Xf0 (Xaw Xf0 (Xdf Xln (pv 4) Xhy (Xdd (pv 5))) (Xa6 Xg4 (hr.mono (by decide)) (by rfl) (Xaa (Xaw Xdm (pv 3) Xal) Xac))) (Xdf Xln (pv 4) (Xdd (pv 5)) Xhy)) (Xls (pv 0) Xal Xec)))))) Xa8)
   (Xag (Xb0 (Xbb Xfk (pv 2) Xal (Xbf _)) (Xaj (Xke (Xa6 Xic (hr.mono (by decide)) (by rfl) (Xaa (Xba Xbk (pv 0) Xal (λ_ _=>rfl)) (Xaa (pv 1) (Xaa (pv 3) Xac)))) (Xls (pv 0) Xal Xec))) Xa8)
   (Xag (Xb0 (Xbb Xfk (pv 2) Xal (Xbf _)) (Xaj (Xbs (Xdb plainAttrs_list slot_list_pop type_list_pop Ydf (pv 0) (Xaa (Xaw Xb9 (pv 3) Xal) Xac)))) Xa8)
   (Xag (Xb0 (Xbb Xfk (pv 2) Xal (Xbf _)) (Xaj (Xbs (Xdb plainAttrs_list PySem.F.slot_list_append PySem.F.type_list_append Xcb (pv 0) (Xaa (Xba Xbk (Xbm (Xaa Xat (Xaa Xat (Xaa Xat (Xaa Xat Xac))))) (Xaw Xb9 (pv 3) Xal) (λ_ _=>rfl)) Xac)))) Xa8)
   (Xaj (Xaz (Xdb plainAttrs_str slot_str_join type_str_join Xh2 Xat (Xaa (pv 0) Xac)))))))))))),
  (Xao (Xa5 (Yck (Xaf Xad Xan)))
   (Xao (Xcd (Xa9 (Xaq Xfm Xad (Xap Xah))) (Xnb (Xa0 (Xbo Xb4 (Xby (Xb3 (Xak (Xa0 Xas) (Xak (Xa0 Xas) (Xak (Xa0 Xas) (Xak (Xa0 Xas) (Xak (Xa0 Xas) Xbn))))))) (Xaq Xc5 Xad (Xap Xah)))) (Xap Xah)) Xa7)
   (Xao (Xcd (Xa9 (Xve Xhf Xhf (Xap Xah) Xad (Xap Xah))) (Xnb (Xa1 (Xab (Xaq Xcl Xad (Xap Xah)) (Xab Xai Xam))) Xad) Xa7)
   (Xao (Xcd (Xa9 (Xaq Xfm Xad (Xap Xah))) (Xnb (Xa1 (Xab Xai Xam)) (Xap Xah)) Xa7)
   (Xao (Xcd (Xa9 (Xaq Xfm Xad (Xap Xah))) (Xao (Xa5 (Xa0 (Yco (Xca (OpF.b Xb4) Xad (Xap Xah)))))
   (Xao (Xcd (Xa9 (Xaq Xfm (Xap (Xaq Xc5 (Xap (Xaq Xc5 Xad (Xap Xah))) (Xap Xah))) (Xap Xah))) (Xa5 (Xa0 (Xlr Xai Xrw (Xkc (Xap (Xaq Xc5 (Xap (Xaq Xc5 Xad (Xap Xah))) (Xap (Xaq Xcl (Xap (Xbl Xif (Xaf Xad Xan))) (Xap Xah))))))))) Xa7)
   (Xao (Xa5 (Xa0 (Xaq Xc5 Xad (Xap (Xaq Xcl (Xap (Xbl Xif (Xaf Xad Xan))) (Xap Xah))))))
   (Xnb (Xa0 (Xaq Xnm (Xap (Xaq Xnm (Xap (Xlr Xai Xrw (Xkc Xad))) (Xap (Xby (Xa1 (Xab (Xaq Xc5 Xad (Xap Xah)) Xam)))))) (Xap (Xlr Xai (Xkc Xad) Xrw)))) (Xap Xah))))) Xa7)
   (Xao (Xcd (Xa9 (Xaq Xfm Xad (Xap Xah))) (Xnb (Xil (Xaf (Xca (OpF.b Xb4) Xad (Xap Xah)) (Xaf Xad (Xaf Xad Xan)))) (Xap Xah)) Xa7)
   (Xao (Xcd (Xa9 (Xaq Xfm Xad (Xap Xah))) (Ygn (Xap (Xaq Xc5 Xad (Xap Xah)))) Xa7)
   (Xao (Xcd (Xa9 (Xaq Xfm Xad (Xap Xah))) (Xvb (Xa0 (Xbo Xb4 (Xby (Xb3 (Xak (Xa0 Xas) (Xak (Xa0 Xas) (Xak (Xa0 Xas) (Xak (Xa0 Xas) Xbn)))))) (Xaq Xc5 Xad (Xap Xah))))) Xa7)
   (Xa2 (Xa0 (Xjn (Xap Xas) Xad))))))))))),?_⟩)
 rintro ds Pr ⟨h,w,L,n,fs,bs,v,way,c,rfl,hd,hl,F,hv,hu,y0,y1,k⟩
 gn_on
 refine⟨by simp[wrT,D.lfs,D.lf],?_⟩
 rw[map_map,show (wrT h w L n fs bs).map (OV.fz∘D.str)=[.fz (.str (Str.ofString "liftwave")),.fz (.str (Xb6 h)),.fz (.str (Xb6 w)),.fz (.str (Xb6 L)),.fz (.str (Xb6 n)),.fz (.str (Xl8 fs)),.fz (.str (lT (pk bs)))] from rfl]
 have hsh:=Xvx hd
 have hfr:=Yiu h w L n fs
 have hpl:=Xqe bs (by omega)
 have hlt:(lT (pk bs)).length=(pk bs).length:=by rw[Xbv,length_map]
 gp_on
 gn_on
 have sum7:∀w0 w1 w2 w3 w4 w5 w6:Str,w0.length<=600->w1.length<=600->w2.length<=600->w3.length<=600->w4.length<=600->w5.length<=600->w6.length<=300000->([w0,w1,w2,w3,w4,w5,w6].map (·.length)).sum+[w0,w1,w2,w3,w4,w5,w6].length<=1000000:=by
  intro w0 w1 w2 w3 w4 w5 w6 a0 a1 a2 a3 a4 a5 a6
  show w0.length+(w1.length+(w2.length+(w3.length+(w4.length+(w5.length+(w6.length+0))))))+7<=1000000
  lia
 have s1:=hsh _ (show Xb6 h∈_ by simp)
 have s2:=hsh _ (show Xb6 w∈_ by simp)
 have s3:=hsh _ (show Xb6 L∈_ by simp)
 have s4:=hsh _ (show Xb6 n∈_ by simp)
 have s5:=hsh _ (show Xl8 fs∈_ by simp)
 have f1:=hfr _ (show Xb6 h∈_ by simp)
 have f2:=hfr _ (show Xb6 w∈_ by simp)
 have f3:=hfr _ (show Xb6 L∈_ by simp)
 have f4:=hfr _ (show Xb6 n∈_ by simp)
 have f5:=hfr _ (show Xl8 fs∈_ by simp)
 have f6:=Yaj (pk bs)
 have lw:(Str.ofString "liftwave").length<=600:=by decide +kernel
 have lf:32∉(Str.ofString "liftwave").cps.toList:=by decide +kernel
 have free7:∀w0 w1 w2 w3 w4 w5 w6:Str,32∉w0.cps.toList->32∉w1.cps.toList->32∉w2.cps.toList->32∉w3.cps.toList->32∉w4.cps.toList->32∉w5.cps.toList->32∉w6.cps.toList->∀x∈[w0,w1,w2,w3,w4,w5,w6],32∉x.cps.toList:=by
  intro w0 w1 w2 w3 w4 w5 w6 a0 a1 a2 a3 a4 a5 a6 x hx
  simp only[mem_cons,not_mem_nil,or_false]at hx
  rcases hx with rfl |rfl |rfl |rfl |rfl |rfl |rfl<;>assumption
 have t1:way=0->∀xs:List Str,Yd3 (Str.join (tx [32]) xs)->(xs.map (·.length)).sum+xs.length<=1000000->N [vL (xs.map λx=>.fz (.str x)),vD (.str (Xbt bs)),vI way,vI c,none,none]:=by
  intro hway xs hx hs
  repeat (gp_on;gn_on;rw[if_neg (by lia)])
  gp_on
  fin2
  exact⟨xs,by rw[map_map];rfl,by rw[show (Str.ofString " ").length=1 from rfl];lia,by rw[Xdz,Xfn];exact k _ hx⟩
 by_cases h0:way=0
 .rw [if_pos h0]
  refine Yc0 (f:=λx=>decide (x≠Str.ofString "liftwave") && decide (x.length<=600) && !(x.cps.toList.contains 32)) (by lia) (by show c%5<5;lia) (by decide +kernel) λx hx=>⟨0,rfl,?_⟩
  simp only[and_eq_true,decide_eq_true_eq,not_eq_true',contains_eq_mem,decide_eq_false_iff_not]at hx
  obtain⟨⟨x1,x2⟩,x3⟩:=hx
  have hs:=sum7 x _ _ _ _ _ _ x2 s1 s2 s3 s4 s5 (show (lT (pk bs)).length<=300000 by lia)
  exact t1 h0 [x,Xb6 h,Xb6 w,Xb6 L,Xb6 n,Xl8 fs,lT (pk bs)] (Xex (by simp) hs (free7 _ _ _ _ _ _ _ x3 f1 f2 f3 f4 f5 f6) (.inr ⟨_,_,_,_,_,_,_,rfl,.inl x1⟩)) hs
 rw[if_neg h0]
 clear t1
 gp_on
 gn_on
 have t2:1<=way/\way<=4->∀xs:List Str,Yd3 (Str.join (tx [32]) xs)->(xs.map (·.length)).sum+xs.length<=1000000->N [vL (xs.map λx=>.fz (.str x)),vD (.str (Xbt bs)),vI way,vI c,none,none]:=by
  intro hway xs hx hs
  repeat (gp_on;gn_on;rw[if_neg (by lia)])
  gp_on
  fin2
  exact⟨xs,by rw[map_map];rfl,by rw[show (Str.ofString " ").length=1 from rfl];lia,by rw[Xdz,Xfn];exact k _ hx⟩
 rw[if_pos (show 1<=way by lia)]
 by_cases h1:way<=4
 .rw [if_pos h1]
  obtain⟨p,hp⟩:∃p:Nat,way=(p:Int)+1:=⟨(way-1).toNat,by lia⟩
  rw[show way-1=(p:Int) by lia]
  have hp4:p<4:=by lia
  obtain⟨q,hq⟩:∃q,spH[p]?=some q:=⟨_,getElem?_eq_getElem (show p<spH.length from hp4)⟩
  refine⟨p,c,q,rfl,hq,λx hx=>⟨p+1,by rw[Yfb y0 (by lia)];congr 1;lia,?_⟩⟩
  obtain⟨x1,x2,_⟩:=Xz3 hx
  have hl:∀(i:Nat) (y:Str),y.length<=600->(if p=i then x else y).length<=600:=λi y hy=>by split<;>assumption
  have hf:∀(i:Nat) (y:Str),32∉y.cps.toList->32∉(if p=i then x else y).cps.toList:=λi y hy=>by split<;>assumption
  have e:[Str.ofString "liftwave",if p=0 then x else Xb6 h,if p=1 then x else Xb6 w,if p=2 then x else Xb6 L,if p=3 then x else Xb6 n,Xl8 fs,lT (pk bs)]=(wrT h w L n fs bs).set (p+1) x:=by
   rcases (show p=0∨p=1∨p=2∨p=3 by lia) with rfl |rfl |rfl |rfl<;>rfl
  have hs:=sum7 _ _ _ _ _ _ _ lw (hl 0 _ s1) (hl 1 _ s2) (hl 2 _ s3) (hl 3 _ s4) s5 (show (lT (pk bs)).length<=300000 by lia)
  have key:=t2 (by omega) _ (Xex (by simp) hs (free7 _ _ _ _ _ _ _ lf (hf 0 _ f1) (hf 1 _ f2) (hf 2 _ f3) (hf 3 _ f4) f5 f6) (.inr ⟨_,_,_,_,_,_,_,rfl,.inr ⟨rfl,λy hy=>by
   simp only[mem_cons,not_mem_nil,or_false]at hy
   rcases hy with rfl |rfl |rfl |rfl |rfl
   .exact hl 0 _ s1
   .exact hl 1 _ s2
   .exact hl 2 _ s3
   .exact hl 3 _ s4
   .exact s5,λP X z=>Yks hd hq hx z⟩⟩)) hs
  rw[e,List.map_set]at key
  exact key
 rw[if_neg h1]
 clear t2
 gp_on
 gn_on
 have t3:way=5->∀xs:List Str,Yd3 (Str.join (tx [32]) xs)->(xs.map (·.length)).sum+xs.length<=1000000->N [vL (xs.map λx=>.fz (.str x)),vD (.str (Xbt bs)),vI way,vI c,none,none]:=by
  intro hway xs hx hs
  repeat (gp_on;gn_on;rw[if_neg (by lia)])
  gp_on
  fin2
  exact⟨xs,by rw[map_map];rfl,by rw[show (Str.ofString " ").length=1 from rfl];lia,by rw[Xdz,Xfn];exact k _ hx⟩
 by_cases h5:way=5
 .rw [if_pos h5]
  refine⟨c,rfl,λx hx=>⟨5,rfl,?_⟩⟩
  obtain⟨x1,x2,_⟩:=Xvo hx
  have hs:=sum7 _ _ _ _ _ _ _ lw s1 s2 s3 s4 x1 (show (lT (pk bs)).length<=300000 by lia)
  exact t3 h5 [Str.ofString "liftwave",Xb6 h,Xb6 w,Xb6 L,Xb6 n,x,lT (pk bs)] (Xex (by simp) hs (free7 _ _ _ _ _ _ _ lf f1 f2 f3 f4 x2 f6) (.inr ⟨_,_,_,_,_,_,_,rfl,.inr ⟨rfl,λy hy=>by
   simp only[mem_cons,not_mem_nil,or_false]at hy
   rcases hy with rfl |rfl |rfl |rfl |rfl<;>assumption,λP X z=>Yhd hd hx z⟩⟩)) hs
 rw[if_neg h5]
 clear t3
 gp_on
 gn_on
 have t4:way=6->∀(xs:List Str) (o4 o5:Option Sl),Yd3 (Str.join (tx [32]) xs)->(xs.map (·.length)).sum+xs.length<=1000000->N [vL (xs.map λx=>.fz (.str x)),vD (.str (Xbt bs)),vI way,vI c,o4,o5]:=by
  intro hway xs o4 o5 hx hs
  repeat (gp_on;gn_on;rw[if_neg (by lia)])
  gp_on
  fin2
  exact⟨xs,by rw[map_map];rfl,by rw[show (Str.ofString " ").length=1 from rfl];lia,by rw[Xdz,Xfn];exact k _ hx⟩
 by_cases h6:way=6
 .rw [if_pos h6]
  refine⟨_,rfl,rfl,?_⟩
  dsimp only
  have bad:∀(A B:List Nat) (x:Nat) (o4 o5:Option Sl),A.length+B.length<=225000->(∀y∈A++B,y≠32)->(x<97∨112<x)->x≠32->N [vL ([Str.ofString "liftwave",Xb6 h,Xb6 w,Xb6 L,Xb6 n,Xl8 fs,tx (A++[x]++B)].map λx=>.fz (.str x)),vD (.str (Xbt bs)),vI way,vI c,o4,o5]:=by
   intro A B x o4 o5 hAB hf1 hx hx2
   have hlen:(tx (A++[x]++B)).length=A.length+1+B.length:=by rw[Xbv,length_append,length_append];rfl
   have hs:=sum7 _ _ _ _ _ _ _ lw s1 s2 s3 s4 s5 (show (tx (A++[x]++B)).length<=300000 by lia)
   refine t4 h6 _ o4 o5 (Xex (by simp) hs (free7 _ _ _ _ _ _ _ lf f1 f2 f3 f4 f5 (λz=>?_)) (.inr ⟨_,_,_,_,_,_,_,rfl,.inr ⟨rfl,hsh,λP X z=>Yit hd ⟨A++[x]++B,rfl,?_,.inl ⟨λq=>?_,z⟩⟩⟩⟩)) hs
   .have z':32∈A++[x]++B:=z
    simp only[mem_append,mem_singleton]at z' hf1
    rcases z' with (z' |z') |z'
    .exact hf1 32 (.inl z') rfl
    .exact hx2 z'.symm
    .exact hf1 32 (.inr z') rfl
   .rw [length_append,length_append,length_singleton]
    lia
   .have:=q x (by simp)
    lia
  have go:∀(ns:List Nat) (o4:Option Sl),ns.length<=225000->(lT ns).length<=1000000/\0<((lT ns).length:Int)+1/\(lT ns).length<=1000000/\Xfh [D.int (c / 7)] λr=>match D.str (Txt.slice (lT ns) none (some (c%(((lT ns).length:Int)+1)))),r.val with
    |D.str x_1,D.str y=>x_1.length+y.length<=1000000/\(lT ns).length<=1000000/\(x_1++y).length+(Txt.slice (lT ns) (some (c%(((lT ns).length:Int)+1))) none).length<=1000000/\∃j,ixN 7 6=some j/\N [some (Sl.own (OV.nl ([OV.fz (D.str (Str.ofString "liftwave")),OV.fz (D.str (Xb6 h)),OV.fz (D.str (Xb6 w)),OV.fz (D.str (Xb6 L)),OV.fz (D.str (Xb6 n)),OV.fz (D.str (Xl8 fs)),OV.fz (D.str (lT (pk bs)))].set j (OV.fz (D.str (x_1++y++Txt.slice (lT ns) (some (c%(((lT ns).length:Int)+1))) none)))))),some (Sl.own (OV.fz (D.str (Xbt bs)))),some (Sl.own (OV.fz (D.int way))),some (Sl.own (OV.fz (D.int c))),o4,some (Sl.own (OV.fz (D.int (c%(((lT ns).length:Int)+1)))))]
    |_,_=>False:=by
   intro ns o4 hn
   have hnl:(lT ns).length=ns.length:=by rw[Xbv,length_map]
   have a0:0<=c%(((lT ns).length:Int)+1):=emod_nonneg _ (by lia)
   have a1:c%(((lT ns).length:Int)+1)<((lT ns).length:Int)+1:=emod_lt_of_pos _ (by lia)
   generalize c%(((lT ns).length:Int)+1)=a at a0 a1
   obtain⟨a,rfl⟩:∃k:Nat,a=k:=⟨a.toNat,by lia⟩
   refine⟨by lia,by lia,by lia,c / 7,rfl,λx hx hx2=>?_⟩
   have e1:Txt.slice (lT ns) none (some (a:Int))=tx ((ns.map (97+·)).take a):=Xu1 _ (by lia)
   have e2:Txt.slice (lT ns) (some (a:Int)) none=tx ((ns.map (97+·)).drop a):=Xpu _ (by lia)
   have l1:(tx ((ns.map (97+·)).take a)).length<=ns.length:=by rw[Xbv,length_take,length_map];lia
   have l2:(tx ((ns.map (97+·)).drop a)).length<=ns.length:=by rw[Xbv,length_drop,length_map];lia
   have l3:((ns.map (97+·)).take a).length+((ns.map (97+·)).drop a).length=ns.length:=by rw[length_take,length_drop,length_map];lia
   rw[e1,e2]
   dsimp only[OV.val]
   rw[Xn9,Xn9]
   refine⟨?_,by lia,?_,6,rfl,bad _ _ x _ _ (by lia) (λy hy=>?_) hx hx2⟩
   .show _+1<=1000000
    lia
   .rw [show (tx ((ns.map (97+·)).take a++[x])).length=((ns.map (97+·)).take a).length+1 by rw[Xbv,length_append];rfl,show (tx ((ns.map (97+·)).drop a)).length=((ns.map (97+·)).drop a).length from Xbv _]
    lia
   .rw [take_append_drop]at hy
    obtain⟨m,_,rfl⟩:=mem_map.mp hy
    lia
  split
  .have b0:0<=c / 11%(((lT (pk bs)).length:Int)+1):=emod_nonneg _ (by lia)
   have b1:c / 11%(((lT (pk bs)).length:Int)+1)<((lT (pk bs)).length:Int)+1:=emod_lt_of_pos _ (by lia)
   generalize c / 11%(((lT (pk bs)).length:Int)+1)=b at b0 b1
   obtain⟨b,rfl⟩:∃k:Nat,b=k:=⟨b.toNat,by lia⟩
   rw[show Txt.slice (lT (pk bs)) none (some (b:Int))=lT ((pk bs).take b) by
    rw[Xu1 _ (by lia)]
    show tx (((pk bs).map (97+·)).take b)=_
    rw[<- map_take]]
   exact⟨by lia,by lia,by lia,go ((pk bs).take b) _ (by rw[length_take];lia)⟩
  .exact go (pk bs) _ hpl
 rw[if_neg h6]
 clear t4
 gp_on
 gn_on
 have t5:way=7->∀xs:List Str,Yd3 (Str.join (tx [32]) xs)->(xs.map (·.length)).sum+xs.length<=1000000->N [vL (xs.map λx=>.fz (.str x)),vD (.str (Xbt bs)),vI way,vI c,none,none]:=by
  intro hway xs hx hs
  repeat (gp_on;gn_on;rw[if_neg (by lia)])
  gp_on
  fin2
  exact⟨xs,by rw[map_map];rfl,by rw[show (Str.ofString " ").length=1 from rfl];lia,by rw[Xdz,Xfn];exact k _ hx⟩
 by_cases h7:way=7
 .rw [if_pos h7]
  refine⟨_,rfl,bs,c,rfl,by omega,λns n1 n2 n3 n4 n5=>⟨rfl,6,rfl,?_⟩⟩
  have hnl:(lT ns).length=ns.length:=by rw[Xbv,length_map]
  have hs:=sum7 _ _ _ _ _ _ _ lw s1 s2 s3 s4 s5 (show (lT ns).length<=300000 by lia)
  refine t5 h7 [Str.ofString "liftwave",Xb6 h,Xb6 w,Xb6 L,Xb6 n,Xl8 fs,lT ns] (Xex (by simp) hs (free7 _ _ _ _ _ _ _ lf f1 f2 f3 f4 f5 (Yaj ns)) (.inr ⟨_,_,_,_,_,_,_,rfl,.inr ⟨rfl,hsh,λP X z=>Yit hd ⟨ns.map (97+·),rfl,by rw[length_map];lia,.inr ⟨λy hy=>?_,h,w,n,bs.length,v,rfl,rfl,rfl,by have:=hd.1;lia,by have:=hd.2.2.2.1;lia,?_,hu,by rw[Xlu];exact n4,.inl ⟨?_,z⟩⟩⟩⟩⟩)) hs
  .obtain ⟨m,hm,rfl⟩:=mem_map.mp hy
   have:=n1 m hm
   lia
  .rw [Xlu,<- take_append_drop bs.length (ns.flatMap fr),n3]
   exact Ya6 F hv
  .rw [Xlu]
   rcases n5 with n5 |n5
   .exact .inl (by omega)
   .exact .inr n5
 rw[if_neg h7]
 clear t5
 gp_on
 gn_on
 have t6:way=8->∀xs:List Str,Yd3 (Str.join (tx [32]) xs)->(xs.map (·.length)).sum+xs.length<=1000000->N [vL (xs.map λx=>.fz (.str x)),vD (.str (Xbt bs)),vI way,vI c,none,none]:=by
  intro hway xs hx hs
  gp_on
  gn_on
  rw[if_neg (by lia)]
  gp_on
  fin2
  exact⟨xs,by rw[map_map];rfl,by rw[show (Str.ofString " ").length=1 from rfl];lia,by rw[Xdz,Xfn];exact k _ hx⟩
 have w7:=free7 _ _ _ _ _ _ _ lf f1 f2 f3 f4 f5 f6
 have z7:=sum7 _ _ _ _ _ _ _ lw s1 s2 s3 s4 s5 (show (lT (pk bs)).length<=300000 by lia)
 by_cases h8:way=8
 .rw [if_pos h8]
  refine⟨by lia,by show c%7<7;lia,?_⟩
  have hi:(c%7).toNat<7:=by lia
  generalize (c%7).toNat=i at hi
  have hlen:((wrT h w L n fs bs).eraseIdx i).length=6:=by rw[List.length_eraseIdx_of_lt (show i<(wrT h w L n fs bs).length from hi)];rfl
  have hs:(((wrT h w L n fs bs).eraseIdx i).map (·.length)).sum+((wrT h w L n fs bs).eraseIdx i).length<=1000000:=by
   rcases (show i=0∨i=1∨i=2∨i=3∨i=4∨i=5∨i=6 by lia) with rfl |rfl |rfl |rfl |rfl |rfl |rfl<;>(simp[wrT];lia)
  have key:=t6 h8 ((wrT h w L n fs bs).eraseIdx i) (Xex (λz=>by rw[z]at hlen;cases hlen) hs (λx hx=>w7 x (List.mem_of_mem_eraseIdx hx)) (.inl (by rw[hlen];decide))) hs
  rw[Xst]at key
  exact key
 rw[if_neg h8]
 clear t6
 gp_on
 gn_on
 rw[if_pos (show way=9 by lia)]
 refine⟨by decide,Yc0 (f:=λx=>decide (x.length<=600) && !(x.cps.toList.contains 32)) (by lia) (by show c%4<4;lia) (by decide +kernel) λx hx=>?_⟩
 simp only[and_eq_true,decide_eq_true_eq,not_eq_true',contains_eq_mem,decide_eq_false_iff_not]at hx
 have hs:((wrT h w L n fs bs++[x]).map (·.length)).sum+(wrT h w L n fs bs++[x]).length<=1000000:=by
  rw[map_append,sum_append,length_append]
  have:=Xx1 hd (show bs.length<=900000 by omega)
  show _+(x.length+0)+(7+1)<=1000000
  lia
 have hr:=Xex (ws:=wrT h w L n fs bs++[x]) (by simp) hs (λy hy=>by
  rcases mem_append.mp hy with z |z
  .exact w7 y z
  .rw [mem_singleton.mp z];exact hx.2) (.inl (show 8≠7 by decide))
 gp_on
 fin2
 exact⟨wrT h w L n fs bs++[x],rfl,by rw[show (Str.ofString " ").length=1 from rfl];lia,by rw[Xdz,Xfn];exact k _ hr⟩
abbrev Xgi:Stmt:=top 107
theorem Xcj:FnScope ["_law_text","_law_kinds","e"] ["_law_text"] (Xae Xgi):=by walk_at "S"
theorem Xow (Df:DefAt K mg "_law_refused" Xgi f fd)(B:BltV mg)(KV:KitV K){W_WaveError:Addr}(m_WaveError:mg "WaveError"=some (.ref W_WaveError))(x_NoText:∀c∈(["NoText"]:List Str),∀C,nsIn K mainGlobals c=some (some (.ref C))->exmOne K (.ref C) (.ref W_WaveError)=some true)(EV_NoText:ExcV K "NoText" [("NoText",true),("NoHead",false),("NoLadder",false),("NoBits",false),("NoLevel",false),("NoPicture",false),("NoPiece",false),("NoRow",false),("TooMany",false)] [("ValueError",true)])(zB_ValueError:mg "ValueError"=none)(Xmk:Xq8 K mg "NoText")(Xml:Xq8 K mg "NoHead")(Xio:Xq8 K mg "NoLadder")(Xmm:Xq8 K mg "NoBits")(Xko:Xq8 K mg "NoLevel")(Xgu:Xq8 K mg "NoPicture")(Xkn:Xq8 K mg "NoPiece")(Xqs:Xq8 K mg "NoRow")(Xkm:Xq8 K mg "TooMany")(Xc6:CalX P w K mg base "read_text" 8 ["text"] (spX K 1 Xhk)):
  Cal P w K mg base "_law_refused" 9 ["_law_text"] (spV K 1 Xix):=by
 refine CalV.of Df Xcj (by walk_at "b") rfl (λc A o s H E hr=>⟨_,_,(Xag (Xa4 (i:=1) Xcj.nd rfl (Or.inl rfl) (Xbm Xac))
   (Xag (Yhj (ni:=2) rfl rfl (λ_ _ z=>z) Xc6 (hr.mono (by decide)) (by rfl) (Xaa (pv 0) Xac) (by rfl) m_WaveError Xcj.nd rfl rfl rfl (λ_=>(Xag (Xa4 (i:=1) Xcj.nd rfl (Or.inl rfl) (Xbm (Xaa (Xar Xdy (by rfl) B.isinstance boot_isinstance (Xaa (pv 2) (Xaa (Xnh (by rfl) Xmk) Xac))) (Xaa (Xar Xdy (by rfl) B.isinstance boot_isinstance (Xaa (pv 2) (Xaa (Xgt (v:=.ty "ValueError") (by rfl) zB_ValueError Xn8 (by rfl)) Xac))) (Xaa (Xar Xdy (by rfl) B.isinstance boot_isinstance (Xaa (pv 2) (Xaa (Xnh (by rfl) Xml) Xac))) (Xaa (Xar Xdy (by rfl) B.isinstance boot_isinstance (Xaa (pv 2) (Xaa (Xnh (by rfl) Xio) Xac))) Xac))))))
   (Xag (Xa4 (i:=1) Xcj.nd rfl (Or.inl rfl) (Xaw Xfl (pv 1) (Xbm (Xaa (Xar Xdy (by rfl) B.isinstance boot_isinstance (Xaa (pv 2) (Xaa (Xnh (by rfl) Xmm) Xac))) (Xaa (Xar Xdy (by rfl) B.isinstance boot_isinstance (Xaa (pv 2) (Xaa (Xnh (by rfl) Xko) Xac))) (Xaa (Xar Xdy (by rfl) B.isinstance boot_isinstance (Xaa (pv 2) (Xaa (Xnh (by rfl) Xgu) Xac))) Xac))))))
   (Xaj (Xa4 (i:=1) Xcj.nd rfl (Or.inl rfl) (Xaw Xfl (pv 1) (Xbm (Xaa (Xar Xdy (by rfl) B.isinstance boot_isinstance (Xaa (pv 2) (Xaa (Xnh (by rfl) Xkn) Xac))) (Xaa (Xar Xdy (by rfl) B.isinstance boot_isinstance (Xaa (pv 2) (Xaa (Xnh (by rfl) Xqs) Xac))) (Xaa (Xar Xdy (by rfl) B.isinstance boot_isinstance (Xaa (pv 2) (Xaa (Xnh (by rfl) Xkm) Xac))) Xac)))))))))))
   (Xaj (Xaz (Xgs (Yev hr.units) (pv 1) (Xaw Xfl (Xbm (Xaa Xl3 (Xaa Xl3 Xac))) (Xaw Xzt (Xbm (Xaa Xl3 Xac)) Xal)) (Xbf _)))))),
  (Xao (Xa5 (Xa0 (Xby (Xb3 Xbn))))
   (Xao (Ygl (cs:=["NoText"]) x_NoText (Xab Xai Xam) (Xao (Xa5 (Xa0 (Xby (Xb3 (Xak (Xa0 (Xbl (Xja EV_NoText) (Xaf Xad (Xaf (Xap (Xne Xmk)) Xan)))) (Xak (Xa0 (Xbl (Xja EV_NoText) (Xaf Xad (Xaf (Xap Xp9) Xan)))) (Xak (Xa0 (Xbl (Xja EV_NoText) (Xaf Xad (Xaf (Xap (Xne Xml)) Xan)))) (Xak (Xa0 (Xbl (Xja EV_NoText) (Xaf Xad (Xaf (Xap (Xne Xio)) Xan)))) Xbn))))))))
   (Xao (Xa5 (Xa0 (Xby (Xgo Xai (Xby (Xb3 (Xak (Xa0 (Xbl (Xja EV_NoText) (Xaf Xad (Xaf (Xap (Xne Xmm)) Xan)))) (Xak (Xa0 (Xbl (Xja EV_NoText) (Xaf Xad (Xaf (Xap (Xne Xko)) Xan)))) (Xak (Xa0 (Xbl (Xja EV_NoText) (Xaf Xad (Xaf (Xap (Xne Xgu)) Xan)))) Xbn)))))))))
   (Xa5 (Xa0 (Xby (Xgo Xai (Xby (Xb3 (Xak (Xa0 (Xbl (Xja EV_NoText) (Xaf Xad (Xaf (Xap (Xne Xkn)) Xan)))) (Xak (Xa0 (Xbl (Xja EV_NoText) (Xaf Xad (Xaf (Xap (Xne Xqs)) Xan)))) (Xak (Xa0 (Xbl (Xja EV_NoText) (Xaf Xad (Xaf (Xap (Xne Xkm)) Xan)))) Xbn))))))))))))
   (Xa2 (Xa0 (Xaq Yey Xad (Xap (Xby (Xgo (Xby (Xb3 (Xak (Xa0 Xl2) (Xak (Xa0 Xl2) Xbn)))) (Xby (Xty (Xb3 (Xak (Xa0 Xl2) Xbn)) (Xap Xah))))))))))),?_⟩)
 rintro ds Pr ⟨s,rfl,hs,k⟩
 fin2
 refine⟨s,rfl,hs.1,hs.2 _ _ ?_⟩
 refine⟨by simp,rfl,true,by simp,rfl,true,by simp,rfl,false,by simp,rfl,false,by simp,rfl,false,by simp,rfl,false,by simp,rfl,false,by simp,rfl,false,by simp,rfl,false,by simp,rfl,false,by simp,?_⟩
 exact⟨rfl,rfl,k⟩
theorem Yiv {w:Nat}(hd:Yb5 h w L n fs)(hl:bs.length<=900000)(F:Fol (wk0 (h*w) n) bs v)(hv:v.pl<0)(hu:v.us=bs.length){P:D->Prop}(k:P (.tup [hdD h w L n fs,.str (Xbt bs),.bl true])):Rt (Str.join (tx [32]) (wrT h w L n fs bs)) P X:=by
 have hpl:=Xqe bs (by omega)
 have hg:=Yma bs
 have e:=Xuw h w L n fs bs
 refine .inr ⟨_,_,_,_,_,_,_,e,.inr ⟨rfl,Xvx hd,Yit hd ⟨(pk bs).map (97+·),rfl,by rw[length_map];lia,.inr ⟨λy hy=>?_,h,w,n,bs.length,v,rfl,rfl,rfl,by have:=hd.1;lia,by have:=hd.2.2.2.1;lia,?_,hu,?_,.inr ⟨?_,?_,?_⟩⟩⟩⟩⟩
 .obtain ⟨m,hm,rfl⟩:=mem_map.mp hy
  have:=Ycy bs m hm
  lia
 .rw [Xlu,Xuo]
  exact Ya6 (cs:=List.replicate ((4-bs.length%4)%4) false) F hv
 .rw [Xlu,Xuo]
  exact hg
 .rw [Xlu,Xuo]
  unfold fl
  rw[length_append,length_replicate]
  lia
 .rw [Xlu,Xuo]
  unfold fl
  rw[List.drop_left]
  intro z
  cases (mem_replicate.mp z).2
 .rw [Xlu,Xuo,Ya9,decide_eq_true hv]
  have:=Yai fs
  unfold hdD at k
  rw[this]at k
  exact k
abbrev Ygk:Stmt:=top 108
theorem Xlo:FnScope ["_law_script","_law_cell","_law_picture_here","_law_head","_law_bits","_law_text","_law_words","_law_bad"] ["_law_script"] (Xae Ygk):=by walk_at "S"
theorem Ylh (Df:DefAt K mg "law" Ygk f fd)(B:BltV mg)(KV:KitV K)(Xcs:Cal P w K mg base "_law_cell_at" 1 ["_law_script","_law_k"] (spV K 2 Xiz))(Xg7:Cal P w K mg base "_law_picture" 1 ["_law_script","_law_high","_law_wide","_law_most"] (spV K 4 Xiy))(Xut:CalD P w K mg base "coded" 6 ["picture","ladder","levels"] (spV K 3 Xu7) [.non,.int 2])(Xib:Cal P w K mg base "_law_ladder" 2 ["_law_cell"] (spV K 1 Xj3))(Xn2:Cal P w K mg base "written" 3 ["head","bits"] (spV K 2 Xo8))(Xg5:Cal P w K mg base "_law_spoiled" 2 ["_law_words","_law_bits","_law_way","_law_cell"] (spV K 4 Xiw))(Xc6:CalX P w K mg base "read_text" 8 ["text"] (spX K 1 Xhk))(Xg6:Cal P w K mg base "_law_refused" 9 ["_law_text"] (spV K 1 Xix)):
  FnOk P w K mg base CX0 10 f fd ["_law_script"] (Xu8 K):=by
 refine Yii Df Xlo (λc A o s H E hr=>⟨_,_,(Xag (Xa4 (i:=1) Xlo.nd rfl (Or.inl rfl) (Xa6 Xcs (hr.mono (by decide)) (by rfl) (Xaa (pv 0) (Xaa Xal Xac))))
   (Xag (Xa4 (i:=2) Xlo.nd rfl (Or.inl rfl) (Xa6 Xg7 (hr.mono (by decide)) (by rfl) (Xaa (pv 0) (Xaa (Xaw Xdj Xal (Xaw Xb9 (pv 1) Xal)) (Xaa (Xaw Xdj Xal (Xaw Xb9 (Xaw Xdm (pv 1) Xal) Xal)) (Xaa Xal Xac))))))
   (Xag (Xke (Xa6 Xut.cal (hr.mono (by decide)) (by rfl) (Xaa (pv 2) (Xaa (Xa6 Xib (hr.mono (by decide)) (by rfl) (Xaa (Xa6 Xcs (hr.mono (by decide)) (by rfl) (Xaa (pv 0) (Xaa Xal Xac))) Xac)) (Xaa (Xaw Xb9 (Xaw Xdm (pv 1) Xal) Xal) Xac)))) (Xvn (n:=2) rfl (Xeg (Xbc (i:=3) Xlo.nd rfl (Or.inl rfl)) (Xeg (Xbc (i:=4) Xlo.nd rfl (Or.inl rfl)) Xqf))))
   (Xag (Xa4 (i:=5) Xlo.nd rfl (Or.inl rfl) (Xa6 Xn2 (hr.mono (by decide)) (by rfl) (Xaa (pv 3) (Xaa (pv 4) Xac))))
   (Xag (Xa4 (i:=6) Xlo.nd rfl (Or.inl rfl) (Xdb plainAttrs_str slot_str_split type_str_split Xmn (pv 5) (Xaa Xat Xac)))
   (Xag (Xa4 (i:=7) Xlo.nd rfl (Or.inl rfl) (Xa6 Xg5 (hr.mono (by decide)) (by rfl) (Xaa (pv 6) (Xaa (pv 4) (Xaa (Xaw Xb9 (Xa6 Xcs (hr.mono (by decide)) (by rfl) (Xaa (pv 0) (Xaa Xal Xac))) Xal) (Xaa (Xa6 Xcs (hr.mono (by decide)) (by rfl) (Xaa (pv 0) (Xaa Xal Xac))) Xac))))))
   (Xag (Xb0 (Xbb (Yle hr.units) (Xa6 Xc6.cal (hr.mono (by decide)) (by rfl) (Xaa (pv 5) Xac)) (Xbw (Xaa (pv 3) (Xaa (pv 4) (Xaa Xl3 Xac)))) (Xbf _)) (Xaj (Xaz Xl3)) Xa8)
   (Xaj (Xaz (Xsb (Xa6 Xg6 (hr.mono (by decide)) (by rfl) (Xaa (pv 7) Xac)) (Xsa (Xgs (Yev hr.units) (Xa6 Xc6.cal (hr.mono (by decide)) (by rfl) (Xaa (pv 5) Xac)) (Xbw (Xaa (pv 3) (Xaa (pv 4) (Xaa Xl3 Xac)))) (Xbf _))))))))))))),
  (Xao (Xa5 (Xa0 (Xby (Xa1 (Xab Xai (Xab Xah Xam))))))
   (Xao (Xa5 (Xa0 (Xby (Xa1 (Xab Xai (Xab (Xaq Xcl (Xap Xah) (Xap (Xaq Xc5 Xad (Xap Xah)))) (Xab (Xaq Xcl (Xap Xah) (Xap (Xaq Xc5 (Xap (Xaq Xc5 Xad (Xap Xah))) (Xap Xah)))) (Xab Xah Xam))))))))
   (Xao (Ykk (Xby (Xa1 (Xab Xai (Xab (Xby (Xa1 (Xab (Xby (Xa1 (Xab Xai (Xab Xah Xam)))) Xam))) (Xab (Xaq Xc5 (Xap (Xaq Xc5 Xad (Xap Xah))) (Xap Xah)) Xam))))) (Xvd (Xef Xbe (Xef Xbe Xp8))))
   (Xao (Xa5 (Xa0 (Xby (Xa1 (Xab Xai (Xab Xai Xam))))))
   (Xao (Xa5 (Xa0 (Xby (Xmh Xad (Xap Xas)))))
   (Xao (Xa5 (Xa0 (Xby (Xa1 (Xab Xai (Xab Xai (Xab (Xaq Xc5 (Xap (Xby (Xa1 (Xab Xai (Xab Xah Xam))))) (Xap Xah)) (Xab (Xby (Xa1 (Xab Xai (Xab Xah Xam)))) Xam))))))))
   (Xao (Xcd (Xa9 (Xaq Yli (Xap (Xby (Xa1 (Xab Xai Xam)))) (Xap (Xcp (Xab Xai (Xab Xai (Xab Xl2 Xam))))))) (Xa2 (Xa0 Xl2)) Xa7)
   (Xa2 (Xa0 (Xnf (Xby (Xa1 (Xab Xai Xam))) (Xaq Yey (Xap (Xby (Xa1 (Xab Xai Xam)))) (Xap (Xcp (Xab Xai (Xab Xai (Xab Xl2 Xam)))))))))))))))),?_⟩)
 intro ns hns hb
 gn_on
 refine⟨ns,0,rfl,by decide,?_⟩
 gp_on
 generalize ns.getD (0:Int).toNat 0=c0
 gn_on
 obtain⟨h,hh⟩:∃k:Nat,1+c0%2=k:=⟨(1+c0%2).toNat,by lia⟩
 obtain⟨w,hw⟩:∃k:Nat,1+c0 / 2%3=k:=⟨(1+c0 / 2%3).toNat,by lia⟩
 rw[hh,hw]
 have h0:0<h/\h<=2:=by lia
 have w0:0<w/\w<=3:=by lia
 clear hh hw
 refine⟨ns,h,w,30,rfl,by lia,⟨h0.1,by lia,w0.1,by lia⟩,⟨by decide,by decide⟩,λe he=>?_⟩
 gp_on
 gn_on
 refine⟨ns,1,rfl,by decide,_,rfl,λfs hf ok=>?_⟩
 have hL0:0<=c0 / 6%4/\c0 / 6%4<4:=by lia
 generalize hlv:c0 / 6%4=lv at hL0
 clear hlv
 obtain⟨L,rfl⟩:∃L:Nat,lv=L:=⟨lv.toNat,by lia⟩
 have hL:L<=6:=by lia
 clear hL0
 rw[Xm2]
 have hp:(30:Int)<=2^6:=by decide
 have hB:=Yh4 ok (h:=h) (w:=w) (b:=6) (by decide) (e:=e) (λi j=>by have:=he i j;lia) L
 have h60:10*fs.length*L<=360:=by
  have:=mul_le_mul (Nat.mul_le_mul_left 10 hf) hL
  lia
 have hh9:h*w<=6:=mul_le_mul h0.2 w0.2
 have hh0:0<h*w:=mul_pos h0.1 w0.1
 have hbits:3*(h*w)*461<=900000:=by lia
 refine⟨h,w,e,fs,L,461,rfl,hf,ok,hL,h0.1,by lia,w0.1,by lia,by decide,(λx hx=>le_trans (hB x hx) (by lia)),hbits,λn bs v t1 hxn hn t2 F hv S C hus hbl=>?_⟩
 have hxl:=Ydc (h:=h) (w:=w) (L:=L) (e:=e) (fs:=fs)
 generalize Xk6 h w e fs L=xs at F hxl
 rw[hxl]at F
 clear hB hp hbits h60 t1 t2 S C hxn he
 have hd:Yb5 h w L n fs:=⟨⟨h0.1,by lia⟩,⟨w0.1,by lia⟩,hL,by lia,hf,ok⟩
 have hgood:∀(P:D->Prop) (X:Prop),P (.tup [hdD h w L n fs,.str (Xbt bs),.bl true])->Rt (Str.join (tx [32]) (wrT h w L n fs bs)) P X:=λP X k=>Yiv hd hbl F hv hus k
 have htl:(Str.join (tx [32]) (wrT h w L n fs bs)).length<=1000000:=by
  have:=Xx1 hd hbl
  refine le_trans (PySem.StrLaws.join_length_le _ _) ?_
  rw[show (wrT h w L n fs bs).length=7 from rfl,show (tx [32]).length=1 from rfl]
  lia
 have esp:=Xuw h w L n fs bs
 fin2
 gp_on
 gn_on
 refine⟨h,w,L,n,fs,bs,rfl,hd,hbl,?_⟩
 generalize Str.join (tx [32]) (wrT h w L n fs bs)=tt at hgood htl esp
 gp_on
 gn_on
 rw[esp,map_map]
 refine⟨by decide +kernel,htl,?_⟩
 gp_on
 gn_on
 refine⟨ns,2,rfl,by decide,?_⟩
 dsimp only[OV.val]
 refine⟨by decide,ns,3,rfl,by decide,h,w,L,n,fs,bs,v,_,_,rfl,hd,hbl,F,hv,hus,emod_nonneg _ (by decide),emod_lt_of_pos _ (by decide),λs hs=>?_⟩
 have hf4:D.fit 4 (.tup [hdD h w L n fs,.str (Xbt bs),.bl true])=true:=by
  unfold hdD Xog
  simp only[D.fit,all_cons,List.all_nil,Bool.and_true,Bool.true_and,all_eq_true]
  intro d hd
  obtain⟨x,_,rfl⟩:=mem_map.mp hd
  rfl
 gp_on
 gn_on
 refine⟨tt,rfl,htl,hgood _ _ ?_⟩
 refine⟨rfl,hf4,hf4,?_⟩
 show if (!(D.tup [hdD h w L n fs,.str (Xbt bs),.bl true]).eqb (D.tup [hdD h w L n fs,.str (Xbt bs),.bl true]))=true then _ else _
 rw[D.eqb_refl hf4,if_neg (by decide)]
 gp_on
 fin2
 refine⟨s,rfl,hs,?_⟩
 dsimp only[OV.val]
 rw[if_pos rfl]
 refine⟨tt,rfl,htl,hgood _ _ ⟨rfl,hf4,hf4,?_⟩⟩
 show OV.fz (D.bl ((D.tup [hdD h w L n fs,.str (Xbt bs),.bl true]).eqb (D.tup [hdD h w L n fs,.str (Xbt bs),.bl true])))=_
 rw[D.eqb_refl hf4]
end
theorem Yp7 {w:World}{K:Frag}{h:Heap}{mg:Str->Option Value}(X:K.In h)(G:h.Ns mainGlobals mg)
  (bi:nsIn K mainGlobals "FOURS"=some (some (.ref aT_FOURS))) (bc:K.lookup aT_FOURS=some ⟨.type "tuple",none,.seq #[.str "0000" tk_FOURS_0,.str "0001" tk_FOURS_1,.str "0010" tk_FOURS_2,.str "0011" tk_FOURS_3,.str "0100" tk_FOURS_4,.str "0101" tk_FOURS_5,.str "0110" tk_FOURS_6,.str "0111" tk_FOURS_7,.str "1000" tk_FOURS_8,.str "1001" tk_FOURS_9,.str "1010" tk_FOURS_10,.str "1011" tk_FOURS_11,.str "1100" tk_FOURS_12,.str "1101" tk_FOURS_13,.str "1110" tk_FOURS_14,.str "1111" tk_FOURS_15] nT_FOURS,sl_FOURS⟩)
  (a8:nsIn K mainGlobals "PART_SPANS"=some (some (.ref aT_PART_SPANS))) (az:K.lookup aT_PART_SPANS=some ⟨.type "tuple",od_PART_SPANS,.seq #[.ref aT_PART_SPANS_0,.ref aT_PART_SPANS_1,.ref aT_PART_SPANS_2,.ref aT_PART_SPANS_3,.ref aT_PART_SPANS_4] nT_PART_SPANS,sl_PART_SPANS⟩)
  (af:K.lookup aT_PART_SPANS_0=some ⟨.type "tuple",od_PART_SPANS_0,.seq #[.int 0 tk_PART_SPANS_0_0,.int 1 tk_PART_SPANS_0_1] nT_PART_SPANS_0,sl_PART_SPANS_0⟩)
  (al:K.lookup aT_PART_SPANS_1=some ⟨.type "tuple",od_PART_SPANS_1,.seq #[.int (-8) tk_PART_SPANS_1_0,.int 8 tk_PART_SPANS_1_1] nT_PART_SPANS_1,sl_PART_SPANS_1⟩)
  (ai:K.lookup aT_PART_SPANS_2=some ⟨.type "tuple",od_PART_SPANS_2,.seq #[.int (-8) tk_PART_SPANS_2_0,.int 8 tk_PART_SPANS_2_1] nT_PART_SPANS_2,sl_PART_SPANS_2⟩)
  (aj:K.lookup aT_PART_SPANS_3=some ⟨.type "tuple",od_PART_SPANS_3,.seq #[.int (-64) tk_PART_SPANS_3_0,.int 64 tk_PART_SPANS_3_1] nT_PART_SPANS_3,sl_PART_SPANS_3⟩)
  (ag:K.lookup aT_PART_SPANS_4=some ⟨.type "tuple",od_PART_SPANS_4,.seq #[.int 0 tk_PART_SPANS_4_0,.int 8 tk_PART_SPANS_4_1] nT_PART_SPANS_4,sl_PART_SPANS_4⟩)
  (bh:nsIn K mainGlobals "SIZES"=some (some (.ref aT_SIZES))) (bg:K.lookup aT_SIZES=some ⟨.type "tuple",od_SIZES,.seq #[.int 1 tk_SIZES_0,.int 64 tk_SIZES_1] nT_SIZES,sl_SIZES⟩)
  (ap:nsIn K mainGlobals "NUMBER_SPANS"=some (some (.ref aT_NUMBER_SPANS))) (ak:K.lookup aT_NUMBER_SPANS=some ⟨.type "tuple",od_NUMBER_SPANS,.seq #[.ref aT_NUMBER_SPANS_0,.ref aT_NUMBER_SPANS_1,.ref aT_NUMBER_SPANS_2,.ref aT_NUMBER_SPANS_3] nT_NUMBER_SPANS,sl_NUMBER_SPANS⟩)
  (ad:K.lookup aT_NUMBER_SPANS_0=some ⟨.type "tuple",od_NUMBER_SPANS_0,.seq #[.int 1 tk_NUMBER_SPANS_0_0,.int 64 tk_NUMBER_SPANS_0_1] nT_NUMBER_SPANS_0,sl_NUMBER_SPANS_0⟩)
  (ae:K.lookup aT_NUMBER_SPANS_1=some ⟨.type "tuple",od_NUMBER_SPANS_1,.seq #[.int 1 tk_NUMBER_SPANS_1_0,.int 64 tk_NUMBER_SPANS_1_1] nT_NUMBER_SPANS_1,sl_NUMBER_SPANS_1⟩)
  (aa:K.lookup aT_NUMBER_SPANS_2=some ⟨.type "tuple",od_NUMBER_SPANS_2,.seq #[.int 0 tk_NUMBER_SPANS_2_0,.int 6 tk_NUMBER_SPANS_2_1] nT_NUMBER_SPANS_2,sl_NUMBER_SPANS_2⟩)
  (ac:K.lookup aT_NUMBER_SPANS_3=some ⟨.type "tuple",od_NUMBER_SPANS_3,.seq #[.int 0 tk_NUMBER_SPANS_3_0,.int 4000 tk_NUMBER_SPANS_3_1] nT_NUMBER_SPANS_3,sl_NUMBER_SPANS_3⟩)
  (ay:nsIn K mainGlobals "FIGURE_SPAN"=some (some (.ref aT_FIGURE_SPAN))) (am:K.lookup aT_FIGURE_SPAN=some ⟨.type "tuple",od_FIGURE_SPAN,.seq #[.int 1 tk_FIGURE_SPAN_0,.int 4 tk_FIGURE_SPAN_1] nT_FIGURE_SPAN,sl_FIGURE_SPAN⟩)
  (bf:nsIn K mainGlobals "LADDERS"=some (some (.ref aT_LADDERS))) (bd:K.lookup aT_LADDERS=some ⟨.type "dict",none,.dict #[⟨PyData.keyHash w.params "still",.str "still" tk_LADDERS_0,.ref aT_LADDERS_0⟩,⟨PyData.keyHash w.params "pair",.str "pair" tk_LADDERS_1,.ref aT_LADDERS_1⟩,⟨PyData.keyHash w.params "line",.str "line" tk_LADDERS_2,.ref aT_LADDERS_2⟩,⟨PyData.keyHash w.params "long",.str "long" tk_LADDERS_3,.ref aT_LADDERS_3⟩] nT_LADDERS,#[]⟩) (be:(aT_LADDERS==sysModules)=false)
  (a9:K.lookup aT_LADDERS_0=some ⟨.type "tuple",od_LADDERS_0,.seq #[] nT_LADDERS_0,sl_LADDERS_0⟩)
  (ba:K.lookup aT_LADDERS_1=some ⟨.type "tuple",od_LADDERS_1,.seq #[.ref aT_LADDERS_1_0,.ref aT_LADDERS_1_1] nT_LADDERS_1,sl_LADDERS_1⟩)
  (ar:K.lookup aT_LADDERS_1_0=some ⟨.type "tuple",od_LADDERS_1_0,.seq #[.int 1 tk_LADDERS_1_0_0,.int (-1) tk_LADDERS_1_0_1,.int 0 tk_LADDERS_1_0_2,.int 0 tk_LADDERS_1_0_3,.int 0 tk_LADDERS_1_0_4] nT_LADDERS_1_0,sl_LADDERS_1_0⟩)
  (au:K.lookup aT_LADDERS_1_1=some ⟨.type "tuple",od_LADDERS_1_1,.seq #[.int 0 tk_LADDERS_1_1_0,.int 0 tk_LADDERS_1_1_1,.int 1 tk_LADDERS_1_1_2,.int 0 tk_LADDERS_1_1_3,.int 1 tk_LADDERS_1_1_4] nT_LADDERS_1_1,sl_LADDERS_1_1⟩)
  (bb:K.lookup aT_LADDERS_2=some ⟨.type "tuple",od_LADDERS_2,.seq #[.ref aT_LADDERS_2_0,.ref aT_LADDERS_2_1] nT_LADDERS_2,sl_LADDERS_2⟩)
  (aq:K.lookup aT_LADDERS_2_0=some ⟨.type "tuple",od_LADDERS_2_0,.seq #[.int 1 tk_LADDERS_2_0_0,.int (-1) tk_LADDERS_2_0_1,.int (-1) tk_LADDERS_2_0_2,.int 1 tk_LADDERS_2_0_3,.int 1 tk_LADDERS_2_0_4] nT_LADDERS_2_0,sl_LADDERS_2_0⟩)
  (ax:K.lookup aT_LADDERS_2_1=some ⟨.type "tuple",od_LADDERS_2_1,.seq #[.int 0 tk_LADDERS_2_1_0,.int 1 tk_LADDERS_2_1_1,.int 1 tk_LADDERS_2_1_2,.int 2 tk_LADDERS_2_1_3,.int 2 tk_LADDERS_2_1_4] nT_LADDERS_2_1,sl_LADDERS_2_1⟩)
  (a7:K.lookup aT_LADDERS_3=some ⟨.type "tuple",od_LADDERS_3,.seq #[.ref aT_LADDERS_3_0,.ref aT_LADDERS_3_1,.ref aT_LADDERS_3_2] nT_LADDERS_3,sl_LADDERS_3⟩)
  (ao:K.lookup aT_LADDERS_3_0=some ⟨.type "tuple",od_LADDERS_3_0,.seq #[.int 1 tk_LADDERS_3_0_0,.int (-1) tk_LADDERS_3_0_1,.int (-1) tk_LADDERS_3_0_2,.int 1 tk_LADDERS_3_0_3,.int 1 tk_LADDERS_3_0_4] nT_LADDERS_3_0,sl_LADDERS_3_0⟩)
  (aw:K.lookup aT_LADDERS_3_1=some ⟨.type "tuple",od_LADDERS_3_1,.seq #[.int 0 tk_LADDERS_3_1_0,.int 1 tk_LADDERS_3_1_1,.int 1 tk_LADDERS_3_1_2,.int 2 tk_LADDERS_3_1_3,.int 2 tk_LADDERS_3_1_4] nT_LADDERS_3_1,sl_LADDERS_3_1⟩)
  (av:K.lookup aT_LADDERS_3_2=some ⟨.type "tuple",od_LADDERS_3_2,.seq #[.int 1 tk_LADDERS_3_2_0,.int (-1) tk_LADDERS_3_2_1,.int (-1) tk_LADDERS_3_2_2,.int 4 tk_LADDERS_3_2_3,.int 3 tk_LADDERS_3_2_4] nT_LADDERS_3_2,sl_LADDERS_3_2⟩):
  Yjv K mg "FOURS" ["0000","0001","0010","0011","0100","0101","0110","0111","1000","1001","1010","1011","1100","1101","1110","1111"]/\Ybz K mg "PART_SPANS" (D.tup [.tup [.int 0,.int 1],.tup [.int (-8),.int 8],.tup [.int (-8),.int 8],.tup [.int (-64),.int 64],.tup [.int 0,.int 8]])/\Ybz K mg "SIZES" (D.tup [.int 1,.int 64])/\Ybz K mg "NUMBER_SPANS" (D.tup [.tup [.int 1,.int 64],.tup [.int 1,.int 64],.tup [.int 0,.int 6],.tup [.int 0,.int 4000]])/\Ybz K mg "FIGURE_SPAN" (D.tup [.int 1,.int 4])/\Ym1 w K mg "LADDERS" [("still",.tup []),("pair",.tup [.tup [.int 1,.int (-1),.int 0,.int 0,.int 0],.tup [.int 0,.int 0,.int 1,.int 0,.int 1]]),("line",.tup [.tup [.int 1,.int (-1),.int (-1),.int 1,.int 1],.tup [.int 0,.int 1,.int 1,.int 2,.int 2]]),("long",.tup [.tup [.int 1,.int (-1),.int (-1),.int 1,.int 1],.tup [.int 0,.int 1,.int 1,.int 2,.int 2],.tup [.int 1,.int (-1),.int (-1),.int 4,.int 3]])]:=
 ⟨⟨_,_,mg_of X G bi,λF=>⟨_,[.str "0000",.str "0001",.str "0010",.str "0011",.str "0100",.str "0101",.str "0110",.str "0111",.str "1000",.str "1001",.str "1010",.str "1011",.str "1100",.str "1101",.str "1110",.str "1111"],rfl,.inr ⟨_,_,_,bc,rfl,rfl,Xd0 (show 16<=1000000 by decide),.cons ⟨_,rfl⟩ (.cons ⟨_,rfl⟩ (.cons ⟨_,rfl⟩ (.cons ⟨_,rfl⟩ (.cons ⟨_,rfl⟩ (.cons ⟨_,rfl⟩ (.cons ⟨_,rfl⟩ (.cons ⟨_,rfl⟩ (.cons ⟨_,rfl⟩ (.cons ⟨_,rfl⟩ (.cons ⟨_,rfl⟩ (.cons ⟨_,rfl⟩ (.cons ⟨_,rfl⟩ (.cons ⟨_,rfl⟩ (.cons ⟨_,rfl⟩ (.cons ⟨_,rfl⟩ (.nil))))))))))))))))⟩,⟨_,_,rfl,rfl,⟨_,_,rfl,rfl,⟨_,_,rfl,rfl,⟨_,_,rfl,rfl,⟨_,_,rfl,rfl,⟨_,_,rfl,rfl,⟨_,_,rfl,rfl,⟨_,_,rfl,rfl,⟨_,_,rfl,rfl,⟨_,_,rfl,rfl,⟨_,_,rfl,rfl,⟨_,_,rfl,rfl,⟨_,_,rfl,rfl,⟨_,_,rfl,rfl,⟨_,_,rfl,rfl,⟨_,_,rfl,rfl,rfl⟩⟩⟩⟩⟩⟩⟩⟩⟩⟩⟩⟩⟩⟩⟩⟩⟩,bc,rfl,rfl⟩,⟨_,mg_of X G a8,λF=>⟨_,[.ref aT_PART_SPANS_0,.ref aT_PART_SPANS_1,.ref aT_PART_SPANS_2,.ref aT_PART_SPANS_3,.ref aT_PART_SPANS_4],rfl,.inr ⟨_,_,_,az,rfl,rfl,Xd0 (show 5<=1000000 by decide),.cons rfl (.cons rfl (.cons rfl (.cons rfl (.cons rfl (.nil)))))⟩,⟨_,_,rfl,(t2 af F),⟨_,_,rfl,(t2 al F),⟨_,_,rfl,(t2 ai F),⟨_,_,rfl,(t2 aj F),⟨_,_,rfl,(t2 ag F),rfl⟩⟩⟩⟩⟩⟩⟩,⟨_,mg_of X G bh,λF=>(t2 bg F)⟩,⟨_,mg_of X G ap,λF=>⟨_,[.ref aT_NUMBER_SPANS_0,.ref aT_NUMBER_SPANS_1,.ref aT_NUMBER_SPANS_2,.ref aT_NUMBER_SPANS_3],rfl,.inr ⟨_,_,_,ak,rfl,rfl,Xd0 (show 4<=1000000 by decide),.cons rfl (.cons rfl (.cons rfl (.cons rfl (.nil))))⟩,⟨_,_,rfl,(t2 ad F),⟨_,_,rfl,(t2 ae F),⟨_,_,rfl,(t2 aa F),⟨_,_,rfl,(t2 ac F),rfl⟩⟩⟩⟩⟩⟩,⟨_,mg_of X G ay,λF=>(t2 am F)⟩,Yi5 (mg_of X G bf) bd (⟨⟨_,_,rfl,rfl⟩,⟨⟨_,_,rfl,rfl⟩,⟨⟨_,_,rfl,rfl⟩,⟨⟨_,_,rfl,rfl⟩, trivial⟩⟩⟩⟩) be (.cons (λF=>⟨_,[],rfl,.inr ⟨_,_,_,a9,rfl,rfl,Xd0 (show 0<=1000000 by decide),.nil⟩,rfl⟩) (.cons (λF=>⟨_,[.ref aT_LADDERS_1_0,.ref aT_LADDERS_1_1],rfl,.inr ⟨_,_,_,ba,rfl,rfl,Xd0 (show 2<=1000000 by decide),.cons rfl (.cons rfl (.nil))⟩,⟨_,_,rfl,(t5 ar F),⟨_,_,rfl,(t5 au F),rfl⟩⟩⟩) (.cons (λF=>⟨_,[.ref aT_LADDERS_2_0,.ref aT_LADDERS_2_1],rfl,.inr ⟨_,_,_,bb,rfl,rfl,Xd0 (show 2<=1000000 by decide),.cons rfl (.cons rfl (.nil))⟩,⟨_,_,rfl,(t5 aq F),⟨_,_,rfl,(t5 ax F),rfl⟩⟩⟩) (.cons (λF=>⟨_,[.ref aT_LADDERS_3_0,.ref aT_LADDERS_3_1,.ref aT_LADDERS_3_2],rfl,.inr ⟨_,_,_,a7,rfl,rfl,Xd0 (show 3<=1000000 by decide),.cons rfl (.cons rfl (.cons rfl (.nil)))⟩,⟨_,_,rfl,(t5 ao F),⟨_,_,rfl,(t5 aw F),⟨_,_,rfl,(t5 av F),rfl⟩⟩⟩⟩) (.nil)))))⟩
end Lw
namespace PySem.W.Fast
def tw9461988768396367197:=Nat
def tw2817010154314873259:=Nat
def tw16103002362906334968:=Nat
def tw4198021541550849305:=Nat
def tw13321483662247115558:=Nat
def tw6545130810432011439:=Nat
def tw5408642925451866530:=Nat
def tw3388373098026546663:=Nat
def tw6208770746089932488:=Nat
def tw9935511946178818081:=Nat
def tw12127807989641373536:=Nat
def tw13563352235372831920:=Nat
def tw13957971895695401114:=Nat
def tw13882944166015458370:=Nat
def tw10951638238954572040:=Nat
def tw7640943335943704476:=Nat
def tw17131804387645702534:=Nat
def tw814649098081816539:=Nat
def tw7327614126449237896:=Nat
def tw3254835008176940127:=Nat
def tw17628734647455195277:=Nat
def tw16070667564171926181:=Nat
def tw13464810712408773759:=Nat
def tw2370959533505587275:=Nat
def tw7851106656817502322:=Nat
def tw8228382734265611394:=Nat
def tw16049179795730948950:=Nat
def tw9621512030000002454:=Nat
def tw5299555087293823507:=Nat
def tw14723322317456855144:=Nat
def tw8066435902329098395:=Nat
def tw14702863024479105014:=Nat
def tw734905821156089368:=Nat
def tw1422712850628552653:=Nat
def tw6918691463587713143:=Nat
def tw10581810704828815754:=Nat
def tw18083763721387783032:=Nat
def tw4336892298327586076:=Nat
def tw13254652215705905029:=Nat
def tw13753840629994137159:=Nat
def tw14773707864557153865:=Nat
def tw13445167081362670740:=Nat
def tw9312585103825876661:=Nat
def tw9661609739919976589:=Nat
def tw3264439668066368266:=Nat
def tw1554471895141203565:=Nat
def tw13903281349109302672:=Nat
def tw9004745236914372596:=Nat
def tw8574485751995417181:=Nat
def tw13680232083694324566:=Nat
def tw9070338093666223339:=Nat
def tw3181664597339076140:=Nat
def tw3904733478165124209:=Nat
def tw13275875831361895041:=Nat
def tw14853497275408310298:=Nat
def tw17767594561424439775:=Nat
def tw4904191188606168388:=Nat
def tw13028941277230903305:=Nat
def tw14443162779949719669:=Nat
def tw6375651099016264347:=Nat
def tw5553250598910242589:=Nat
def tw17425363333151264551:=Nat
def tw13213582276878195404:=Nat
def tw16290151030219493281:=Nat
def tw3704509620575793218:=Nat
def tw14504865012537539031:=Nat
def tw9905236542811564984:=Nat
def tw16556610540861112681:=Nat
def tw15849736387013209402:=Nat
def tw8736658299769091683:=Nat
def tw18261035367978889259:=Nat
def tw6346117735319626436:=Nat
def tw9990341106658315285:=Nat
def tw12528745149523245553:=Nat
def tw14435269224012084430:=Nat
def tw8260493151733203723:=Nat
def tw3187190185167098446:=Nat
def tw7466759881059674162:=Nat
def tw9938897678821266495:=Nat
def tw7012029083087688326:=Nat
def tw4260774088062006826:=Nat
def tw17925433506131637331:=Nat
def tw13102891448321599666:=Nat
def tw9064988815619320455:=Nat
def tw5447476376112662462:=Nat
def tw12346994444762496879:=Nat
def tw5342192451749010946:=Nat
def tw15523741611232474419:=Nat
def tw12434280413346141083:=Nat
def tw12577514113641440228:=Nat
def tw13503582851051778169:=Nat
def tw17159912657660653155:=Nat
def tw14575630388250371556:=Nat
def tw942973945200728511:=Nat
def tw11642361797234974507:=Nat
def tw6597436929577792948:=Nat
def tw18167315565145841752:=Nat
def tw14776833418140812271:=Nat
def tw10856002029533754132:=Nat
def tw12023414098150760275:=Nat
def tw3369570684233458659:=Nat
def tw11793369191290130879:=Nat
def tw6937659365377195717:=Nat
def tw1851288150978937610:=Nat
def tw17668186146430540203:=Nat
def tw12362439779146593228:=Nat
def tw16534500007121285782:=Nat
def tw6459317107102526743:=Nat
def tw11329348734093755933:=Nat
def tw9047416436564812565:=Nat
def tw12859672998579255628:=Nat
def tw7161208962209162118:=Nat
def tw3935632433297891491:=Nat
def tw12103184789911261462:=Nat
def tw12612002896165039965:=Nat
def tw31360879898280423:=Nat
def tw249455520180787272:=Nat
def tw9685519999202343030:=Nat
def tw4030292228208432519:=Nat
def tw14485007951697247630:=Nat
def tw3230590998510380299:=Nat
def tw17233398510331364482:=Nat
def tw13686905807890058470:=Nat
def tw139383468741665904:=Nat
def tw3006882037356946452:=Nat
def tw5681149850288106955:=Nat
def tw9642859969521155889:=Nat
def tw9266310015548938204:=Nat
def tw16426737095127299150:=Nat
def tw14041614631862409655:=Nat
def tw5099149144145174638:=Nat
def tw15827077331319609925:=Nat
def tw2932177947057141467:=Nat
def tw14748779402513836909:=Nat
def tw14951688829876113432:=Nat
def tw11467089621145116093:=Nat
def tw16498412064424403207:=Nat
def tw14300004388019798081:=Nat
def tw5214230833822671652:=Nat
def tw11156909750233103377:=Nat
def tw16967229123986285682:=Nat
def tw16302233373734883441:=Nat
def tw6722657174905249906:=Nat
def tw17341665321225856790:=Nat
def tw9418530436279796305:=Nat
def tw2673930553175901052:=Nat
def tw4052571301802746349:=Nat
def tw13355790907474961304:=Nat
def tw18276560244954915318:=Nat
def tw6203109578058379855:=Nat
def tw10999307408289107478:=Nat
def tw7209412184227686007:=Nat
def tw12098487778039719668:=Nat
def tw8337562513810327880:=Nat
def tw12459074986026654390:=Nat
def tw10596805043788925330:=Nat
def tw12262793244518190214:=Nat
def tw4532385415970974015:=Nat
def tw15026987493027391076:=Nat
def tw6435900144526790715:=Nat
def tw60143807118294378:=Nat
def tw9113590243958578621:=Nat
def tw11599494846588410793:=Nat
def tw15913310567577047746:=Nat
def tw7139404141767295602:=Nat
def tw11026342918107283301:=Nat
def tw13353175148128077510:=Nat
def tw15722363783780750040:=Nat
def tw2598811803335956338:=Nat
def tw11696705214138572582:=Nat
def tw11729428035523831237:=Nat
def tw5856407543363171439:=Nat
def tw11208063833072782299:=Nat
def tw13763991199278779366:=Nat
def tw9592844965876726991:=Nat
def tw12514341631198245750:=Nat
def tw13210316785211768312:=Nat
def tw5004782900972742070:=Nat
def tw7489839520906216288:=Nat
def tw3835920941456256597:=Nat
def tw11335515327448846640:=Nat
def tw2612317763137955576:=Nat
def tw7311936736702022062:=Nat
def tw2752708527513494018:=Nat
def tw13195877498337291440:=Nat
def tw12592927487296690179:=Nat
def tw3539369174629357794:=Nat
def tw14811772528910423390:=Nat
def tw2996119945820126341:=Nat
def tw13533715490804214298:=Nat
def tw18082665307836224128:=Nat
def tw18412659244440938909:=Nat
def tw8201720887569960791:=Nat
def tw236911965111542623:=Nat
def tw8471802771198192948:=Nat
def tw8811987300133782149:=Nat
def tw7866727914085151773:=Nat
def tw12776591628878261571:=Nat
def tw7531946861610316908:=Nat
def tw6318802786501645984:=Nat
def tw2093070706628894461:=Nat
def tw3748521947468214358:=Nat
def tw18265437047860391159:=Nat
def tw15183922257690172441:=Nat
def tw7978110544155712605:=Nat
def tw6389147689890825376:=Nat
def tw1462039745994538327:=Nat
def tw6762369811946630521:=Nat
def tw8893064161901783228:=Nat
def tw5122038860258221583:=Nat
def tw13597200795947488631:=Nat
def tw10136750320074369164:=Nat
def tw2426112687587585659:=Nat
def tw11626834257702582279:=Nat
def tw11988611006962901268:=Nat
def tw11181300074945713452:=Nat
def tw16382338298779395249:=Nat
def tw16409129089306317278:=Nat
def tw18265827267490944:=Nat
def tw6715546045745862761:=Nat
def tw9056596006994468294:=Nat
def tw10832172264470567627:=Nat
def tw16097382487913820983:=Nat
def tw16251839984265369274:=Nat
def tw4336461085368204219:=Nat
def tw7866173231528426952:=Nat
def tw8025346981392161302:=Nat
def tw810570320044080512:=Nat
def tw17658660651115917058:=Nat
def tw13871355859293568911:=Nat
def tw2551164198447609346:=Nat
def tw17917936746008965334:=Nat
def tw10955764075232155778:=Nat
def tw11771525269970545003:=Nat
def tw3775192261983619219:=Nat
def tw2216924828380787179:=Nat
def tw6968971512844320317:=Nat
def tw8544223505907112208:=Nat
def tw2364414068797261832:=Nat
def tw2427667177037556812:=Nat
def tw11490835856876597243:=Nat
def tw15483559515185039353:=Nat
def tw6151085377690517451:=Nat
def tw1325299168878375874:=Nat
def tw750471813664076341:=Nat
def tw2347263082050641558:=Nat
def tw14051670518328291733:=Nat
def tw6098039507008837579:=Nat
def tw10676507556900034302:=Nat
def tw12427496643663509162:=Nat
def tw8360808132619522712:=Nat
def tw9612888380491975051:=Nat
def tw8390762902743108057:=Nat
def tw7373249517457969686:=Nat
def tw2706408044412962357:=Nat
def tw3726535563845562758:=Nat
def tw13589398023284149336:=Nat
def tw7971590375359712526:=Nat
def tw4435998610517806790:=Nat
def tw8433111095915657845:=Nat
def tw13533626356630259306:=Nat
def tw9270806216397758222:=Nat
def tw1441483112905979295:=Nat
def tw4166520937711368176:=Nat
def tw4628190880646975607:=Nat
def tw8929491205668993348:=Nat
def tw6980794955115136832:=Nat
def tw10714031719753256859:=Nat
def tw3636521657887227545:=Nat
def tw18392980530451114480:=Nat
def tw6807028706305052318:=Nat
def tw18388113943948797232:=Nat
def tw9000138569633640381:=Nat
def tw17897310908383235118:=Nat
def tw12634328696982483277:=Nat
def tw6370836966695448102:=Nat
def tw3169055115653737358:=Nat
def tw14748814540311835524:=Nat
def tw15316900192449159052:=Nat
def tw18177523758897028319:=Nat
def tw993478998091616008:=Nat
def tw15099563159732203690:=Nat
def tw556955358240670342:=Nat
def tw13727011406496918030:=Nat
def tw15221411580926160596:=Nat
def tw408085663341481713:=Nat
def tw16539182840818330096:=Nat
def tw15119789044678957561:=Nat
def tw10344743895210047214:=Nat
def tw15043282388708581512:=Nat
def tw12856790629075290089:=Nat
def tw8984526056290632404:=Nat
def tw13616047384558189326:=Nat
def tw4642133899437641204:=Nat
def tw11896914906988016935:=Nat
def tw12902013061872449822:=Nat
def tw9886150933646705218:=Nat
def tw3955921614075183988:=Nat
def tw10685091382373600377:=Nat
def tw9828657831975831065:=Nat
def tw5388083012706352803:=Nat
def tw10703703169811508657:=Nat
def tw5246521343550231828:=Nat
def tw11080635025871405914:=Nat
def tw6403746107640706230:=Nat
def tw1367340154427617091:=Nat
def tw7289035539986336126:=Nat
def tw6827292093719667816:=Nat
def tw6353976205287021137:=Nat
def tw10013499102849136833:=Nat
def tw8909281628336095414:=Nat
def tw16365048152991307223:=Nat
def tw7208349674364643661:=Nat
def tw9988758103201547210:=Nat
def tw14292130545742033727:=Nat
def tw12334789093784104795:=Nat
def tw2818565889124788022:=Nat
def tw11295632170811028799:=Nat
def tw1091529319812211443:=Nat
def tw8559253457157346343:=Nat
def tw17181958589327868030:=Nat
def tw10261592653530767400:=Nat
def tw5368234369688820480:=Nat
def tw17059482745079685475:=Nat
def tw10805128547285889815:=Nat
def tw12168236083842835029:=Nat
def tw17980195337039060765:=Nat
def tw12745206922724106809:=Nat
def tw18059020165622323615:=Nat
def tw11435125138066591048:=Nat
def tw8980981619648615394:=Nat
def tw4766197563097077951:=Nat
def tw17778519801999532399:=Nat
def tw10758283512912582633:=Nat
def tw15613959783796735630:=Nat
def tw12896546027317362835:=Nat
def tw7778535707182545416:=Nat
def tw6024359903345883053:=Nat
def tw13517041691111715359:=Nat
def tw3751030264596961216:=Nat
def tw1788869491509482498:=Nat
def tw16950061500357570050:=Nat
def tw15924334241400414725:=Nat
def tw1262186536361966152:=Nat
def tw10672248468839596618:=Nat
def tw11801145552216152055:=Nat
def tw1646623197395977131:=Nat
def tw3436152640016990113:=Nat
def tw1094025216827935315:=Nat
def tw17647077975762485940:=Nat
def tw7079045130351369016:=Nat
def tw7374611417488624465:=Nat
def tw8815438783152115737:=Nat
def tw5299144540489165756:=Nat
def tw13957545542127585604:=Nat
def tw3202544464797077679:=Nat
def tw9477075008004367735:=Nat
def tw3371549557643095784:=Nat
def tw9635328126032891095:=Nat
def tw16563513823446633445:=Nat
def tw11753937630544450673:=Nat
def tw15162625406624814792:=Nat
def tw5371482401009169083:=Nat
def tw8460611422686622511:=Nat
def tw11578208490423440529:=Nat
def tw10659591349744873596:=Nat
def tw7505736058211545992:=Nat
def tw7068532244091746217:=Nat
def tw6123582146364634294:=Nat
def tw14699391567926084207:=Nat
def tw8190072903456887342:=Nat
def tw14077535528858009999:=Nat
def tw17726035758875672237:=Nat
def tw10955679897983720768:=Nat
def tw4940826686181119051:=Nat
def tw4754391715774961566:=Nat
def tw18248808504553304350:=Nat
def tw11098000199843782396:=Nat
def tw9018973912045879606:=Nat
def tw18237635782345207144:=Nat
def tw272121739810257522:=Nat
def tw12909646187092364770:=Nat
def tw3012526785538757691:=Nat
def tw10798186002662691655:=Nat
def tw10888015144288843874:=Nat
def tw11239598939866317883:=Nat
def tw648013682414877133:=Nat
def tw7866486432885085923:=Nat
def tw5853327335516116204:=Nat
def tw2952552267159727327:=Nat
def tw13757548049442895147:=Nat
def tw9481215484915986551:=Nat
def tw12856516441511503956:=Nat
def tw5269230565575697566:=Nat
def tw12794561245050512313:=Nat
def tw4533415367359484084:=Nat
def tw15176497930629978027:=Nat
def tw8568896838629953509:=Nat
def tw3519560843165425446:=Nat
def tw9487311214598759753:=Nat
def tw3558141622533870808:=Nat
def tw8051026966084052126:=Nat
def tw5559337535099487399:=Nat
def tw14538665750591001283:=Nat
def tw17960130903721068265:=Nat
def tw14172729578723704441:=Nat
def tw2283936562500986070:=Nat
def tw425493223993419891:=Nat
def tw13016620145332880328:=Nat
def tw13229034962855588590:=Nat
def tw4141561238402759102:=Nat
def tw6534752785578498571:=Nat
def tw18250663052359784910:=Nat
def tw3230300737439797282:=Nat
def tw217987207891277530:=Nat
def tw15843565382128641257:=Nat
def tw13247962544936822765:=Nat
def tw4656173847707287614:=Nat
def tw12505022850653942392:=Nat
def tw1430445891995566439:=Nat
def tw15989166744009259459:=Nat
def tw2348896470750821468:=Nat
def tw759371643895771253:=Nat
def tw4991089246564487599:=Nat
def tw1449350668157159492:=Nat
def tw5855748377424949243:=Nat
def tw8064463444341200788:=Nat
def tw16622959880976587898:=Nat
def tw6171971332187021072:=Nat
def tw10719011552987235760:=Nat
def tw16362356110850573837:=Nat
def tw9841005190557089530:=Nat
def tw7983851878717099100:=Nat
def tw2084620659893343329:=Nat
def tw10213046356671515457:=Nat
def tw8823863176099316137:=Nat
def tw648863118542251728:=Nat
def tw17296589639818347296:=Nat
def tw2433006949241952816:=Nat
def tw964653196323857857:=Nat
def tw1301173328408258505:=Nat
def tw6978989615767863358:=Nat
def tw5380663269684040226:=Nat
def tw9313676197276674198:=Nat
def tw12741423912021770695:=Nat
def tw8271814424370486829:=Nat
def tw13951674875788586890:=Nat
def tw9991236964150755198:=Nat
def tw8967518733715887114:=Nat
def tw14808249656342391825:=Nat
def tw4181546865416584117:=Nat
def tw13711433084430584263:=Nat
def tw6809788093941210866:=Nat
def tw14809351540009940337:=Nat
def tw2723642313760829299:=Nat
def tw14508931631885208061:=Nat
def tw12743510137128332095:=Nat
def tw12929863284340153033:=Nat
def tw1124976614175163645:=Nat
def tw16955556885689150382:=Nat
def tw5254463889054279727:=Nat
def tw3499686566450580347:=Nat
def tw6988969149310047573:=Nat
def tw14938986604310444897:=Nat
def tw13553253286802633730:=Nat
def tw17079194652770077340:=Nat
def tw10928874870110885183:=Nat
def tw5777724450178646024:=Nat
def tw8498535340012371238:=Nat
def tw634504204962894872:=Nat
def tw12695030677849040364:=Nat
def tw8785957079500037641:=Nat
def tw5870505907398964159:=Nat
def tw826477402599316201:=Nat
def tw15065684756537773598:=Nat
def tw13448775398744172407:=Nat
def tw5357653832798937907:=Nat
def tw2874964330183516448:=Nat
def tw5343393951714656355:=Nat
def tw6290921779089035531:=Nat
end PySem.W.Fast
open PySem PySem.W PyProof.Rows L2 Lw
set_option maxRecDepth 100000 in
set_option maxHeartbeats 0 in
theorem PySem.Challenge.cw_liftwave_k48_spoiled_texts_holds : PySem.Challenge.rw_liftwave_k48_spoiled_texts.Holds := by
 w_on;o_law;k_head;(case hw=>w_witness2)
 k_fill
 refine L2.Yag (k:=10) (l:=PySem.Challenge.rw_liftwave_k48_spoiled_texts) rfl rfl ⟨rfl,by decide,by decide⟩ (λw h σ=>PySem.W.kIn_of σ) ?F
 case F=>
  intro w mg fa h X G hfa
  have B:L2.BltV mg:=⟨⟨mz X G,mz X G,mz X G,mz X G,mz X G,mz X G,mz X G,mz X G,mz X G,mz X G,mz X G,mz X G⟩,mz X G,mz X G,mz X G,mz X G,mz X G,mz X G,mz X G,mz X G,mz X G,mz X G⟩
  have KV:=L2.KitV.of2 X (by simp only[Xs0,forall_mem_cons,D.tyN,Ylq,String.reduceBEq,Bool.or_false,Bool.false_or,Bool.true_or,not_mem_nil,false_implies,implies_true,and_true];and_intros<;>kit_is)
  have CV_Walk:=Yp6 (c := "Walk") (ns:=Lw.Xbd) X (hn:=by simp only[Lw.Xbd,forall_mem_cons];exact⟨by k_is,by k_is,by k_is,by k_is,by k_is,λ_ h=>by cases h⟩) (h1:=by decide +kernel) (h2:=by decide)
  have Xh6:∃t,mg "ASKS"=some (.int 0 t):=⟨_,mv X G⟩
  have Xcm:∃t,mg "START"=some (.int 1 t):=⟨_,mv X G⟩
  have Xh5:∃t,mg "END"=some (.int 2 t):=⟨_,mv X G⟩
  have Xlw:∃t,mg "SPAN"=some (.int 3 t):=⟨_,mv X G⟩
  have Xei:∃t,mg "WAKING"=some (.int 0 t):=⟨_,mv X G⟩
  have Xck:∃t,mg "WAKING_FIRST"=some (.int 1 t):=⟨_,mv X G⟩
  have Xkr:∃t,mg "SIGN"=some (.int 2 t):=⟨_,mv X G⟩
  have Xej:∃t,mg "FIGURE"=some (.int 3 t):=⟨_,mv X G⟩
  have Yaz:∃t,mg "HALF"=some (.int 0 t):=⟨_,mv X G⟩
  have Yax:∃t,mg "LEFT"=some (.int 1 t):=⟨_,mv X G⟩
  have Xul:∃t,mg "RIGHT"=some (.int 2 t):=⟨_,mv X G⟩
  have Yiz:∃t,mg "ADD"=some (.int 3 t):=⟨_,mv X G⟩
  have Xuk:∃t,mg "SHIFT"=some (.int 4 t):=⟨_,mv X G⟩
  have Xh4:∃t,mg "MOST_LIFTS"=some (.int 6 t):=⟨_,mv X G⟩
  have Yay:∃t,mg "HIGH"=some (.int 0 t):=⟨_,mv X G⟩
  have Yaw:∃t,mg "WIDE"=some (.int 1 t):=⟨_,mv X G⟩
  have Xqz:∃t,mg "LEVELS"=some (.int 2 t):=⟨_,mv X G⟩
  have Xqx:∃t,mg "PLANES"=some (.int 3 t):=⟨_,mv X G⟩
  have Xgx:∃t,mg "LADDER"=some (.int 4 t):=⟨_,mv X G⟩
  have Xe0:∃t,mg "NUMBERS_START"=some (.int 1 t):=⟨_,mv X G⟩
  have Xqy:∃t,mg "LIFTS"=some (.int 5 t):=⟨_,mv X G⟩
  have Xe1:∃t,mg "LETTERS_texts"=some (.int 6 t):=⟨_,mv X G⟩
  have Xuj:∃t,mg "WORDS"=some (.int 7 t):=⟨_,mv X G⟩
  have Xbx:∃t,mg "LETTERS_packs"=some (.str "abcdefghijklmnop" t):=⟨_,mv X G⟩
  have Xpr:∃t,mg "NAME"=some (.str "liftwave" t):=⟨_,mv X G⟩
  have Xen:∃t,mg "NO_LIFTS"=some (.str "-" t):=⟨_,mv X G⟩
  have Xnw:∃t,mg "FIGURES"=some (.str "0123456789" t):=⟨_,mv X G⟩
  have ⟨Xk8,Xfe,Xqw,Xb7,Xgy,Xks⟩:=Yp7 (w:=w) X G (by k_is) (by k_is) (by k_is) (by k_is) (by k_is) (by k_is) (by k_is) (by k_is) (by k_is) (by k_is) (by k_is) (by k_is) (by k_is) (by k_is) (by k_is) (by k_is) (by k_is) (by k_is) (by k_is) (by k_is) (by k_is) (by decide +kernel) (by k_is) (by k_is) (by k_is) (by k_is) (by k_is) (by k_is) (by k_is) (by k_is) (by k_is) (by k_is) (by k_is)
  have D1:=dmk (x := "packed") (st:=Lw.Xmd) X G
  have D2:=dmk (x := "four_of") (st:=Lw.Xm9) X G
  have D3:=dmk (x := "unpacked") (st:=Lw.Xij) X G
  have D4:=dmk (x := "holds") (st:=Lw.Xtw) X G
  have D5:=dmk (x := "part_of_one") (st:=Lw.Xgf) X G
  have D6:=dmk (x := "calm_span") (st:=Lw.Xji) X G
  have D7:=dmk (x := "signed_span") (st:=Lw.Xgb) X G
  have D8:=dmk (x := "figured_span") (st:=Lw.Xfi) X G
  have q9:=Yp4 (c := "Walk") (q := "Walk.__init__") (st:=Lw.Xet) X G
  have ⟨D9,M_Walk⟩:=q9
  have D10:=Yff (m := "turn") (q := "Walk.turn") (st:=Lw.Xjk) X CV_Walk
  have D11:=Yff (m := "is_whole") (q := "Walk.is_whole") (st:=Lw.Xes) X CV_Walk
  have D12:=Yff (m := "asked") (q := "Walk.asked") (st:=Lw.Xhw) X CV_Walk
  have D13:=Yff (m := "follow") (q := "Walk.follow") (st:=Lw.Xgm) X CV_Walk
  have D14:=Yff (m := "take") (q := "Walk.take") (st:=Lw.Xjl) X CV_Walk
  have D15:=Yff (m := "walk_awake") (q := "Walk.walk_awake") (st:=Lw.Xdl) X CV_Walk
  have D16:=Yff (m := "wake") (q := "Walk.wake") (st:=Lw.Xjj) X CV_Walk
  have D17:=Yff (m := "calm") (q := "Walk.calm") (st:=Lw.Xjm) X CV_Walk
  have D18:=dmk (x := "followed") (st:=Lw.Xkz) X G
  have D19:=dmk (x := "heights_of") (st:=Lw.Xfc) X G
  have D20:=dmk (x := "planes_of") (st:=Lw.Xjf) X G
  have D21:=dmk (x := "answer") (st:=Lw.Xp6) X G
  have D22:=dmk (x := "told") (st:=Lw.Xys) X G
  have D23:=dmk (x := "is_number") (st:=Lw.Xjh) X G
  have D24:=dmk (x := "level_of") (st:=Lw.Xky) X G
  have D25:=dmk (x := "places") (st:=Lw.Xmc) X G
  have D26:=dmk (x := "is_lift") (st:=Lw.Xka) X G
  have D27:=dmk (x := "is_ladder") (st:=Lw.Xgk) X G
  have D28:=dmk (x := "ladder_of") (st:=Lw.Xjg) X G
  have D29:=dmk (x := "neighbours") (st:=Lw.Xht) X G
  have D30:=dmk (x := "lifted_places") (st:=Lw.Xeq) X G
  have D31:=dmk (x := "gain") (st:=Lw.Xyu) X G
  have D32:=dmk (x := "raised") (st:=Lw.Xp4) X G
  have D33:=dmk (x := "is_row") (st:=Lw.Xme) X G
  have D34:=dmk (x := "is_picture") (st:=Lw.Xfb) X G
  have D35:=dmk (x := "change_rows") (st:=Lw.Xgl) X G
  have D36:=dmk (x := "change_columns") (st:=Lw.Xc1) X G
  have D37:=dmk (x := "laid") (st:=Lw.Xyt) X G
  have D38:=dmk (x := "thinned") (st:=Lw.Xj9) X G
  have D39:=dmk (x := "is_part") (st:=Lw.Xm8) X G
  have D40:=dmk (x := "is_head") (st:=Lw.Xkb) X G
  have D41:=dmk (x := "walk_of") (st:=Lw.Xm7) X G
  have D42:=Yp3 (x := "coded") (st:=Lw.Xp5) X G
  have D43:=dmk (x := "read_number") (st:=Lw.Xgc) X G
  have D44:=dmk (x := "written_lift") (st:=Lw.Xdw) X G
  have D45:=dmk (x := "written_ladder") (st:=Lw.Xc0) X G
  have D46:=dmk (x := "written") (st:=Lw.Xj8) X G
  have D47:=dmk (x := "read_lift") (st:=Lw.Xgd) X G
  have D48:=dmk (x := "read_ladder") (st:=Lw.Xed) X G
  have D49:=dmk (x := "read_head") (st:=Lw.Xge) X G
  have D50:=dmk (x := "read_text") (st:=Lw.Xje) X G
  have D51:=dmk (x := "_law_cell_at") (st:=Lw.Xgj) X G
  have D52:=dmk (x := "_law_ladder") (st:=Lw.Xhu) X G
  have D53:=dmk (x := "_law_picture") (st:=Lw.Xee) X G
  have D54:=dmk (x := "_law_odd_number") (st:=Lw.Xd5) X G
  have D55:=dmk (x := "_law_odd_lifts") (st:=Lw.Xer) X G
  have D56:=dmk (x := "_law_strange") (st:=Lw.Xgg) X G
  have D57:=dmk (x := "_law_behind") (st:=Lw.Xhv) X G
  have D58:=dmk (x := "_law_spoiled") (st:=Lw.Xgh) X G
  have D59:=dmk (x := "_law_refused") (st:=Lw.Xgi) X G
  have D60:=dmk (x := "law") (st:=Lw.Ygk) X G
  have aX_NoText:=dnx (c := "NoText") X
  have aX_NoHead:=dnx (c := "NoHead") X
  have aX_NoLadder:=dnx (c := "NoLadder") X
  have aX_NoBits:=dnx (c := "NoBits") X
  have aX_NoLevel:=dnx (c := "NoLevel") X
  have aX_NoPicture:=dnx (c := "NoPicture") X
  have aX_NoPiece:=dnx (c := "NoPiece") X
  have aX_NoRow:=dnx (c := "NoRow") X
  have aX_TooMany:=dnx (c := "TooMany") X
  have aX_WaveError:=dnx (c := "WaveError") X
  have EV_NoText:=Yp5 (xs:=[("NoText",true),("NoHead",false),("NoLadder",false),("NoBits",false),("NoLevel",false),("NoPicture",false),("NoPiece",false),("NoRow",false),("TooMany",false)]) (ts:=[("ValueError",true)]) X aX_NoText ⟨(by first |k_is |kts_exm |kernel_rfl),(by first |k_is |kts_exm |kernel_rfl),(by first |k_is |kts_exm |kernel_rfl),(by first |k_is |kts_exm |kernel_rfl),(by first |k_is |kts_exm |kernel_rfl),(by first |k_is |kts_exm |kernel_rfl),(by first |k_is |kts_exm |kernel_rfl),(by first |k_is |kts_exm |kernel_rfl)⟩ (by simp only[forall_mem_cons];exact⟨⟨_,aX_NoText,(by first |k_is |kts_exm |kernel_rfl)⟩,⟨_,aX_NoHead,(by first |k_is |kts_exm |kernel_rfl)⟩,⟨_,aX_NoLadder,(by first |k_is |kts_exm |kernel_rfl)⟩,⟨_,aX_NoBits,(by first |k_is |kts_exm |kernel_rfl)⟩,⟨_,aX_NoLevel,(by first |k_is |kts_exm |kernel_rfl)⟩,⟨_,aX_NoPicture,(by first |k_is |kts_exm |kernel_rfl)⟩,⟨_,aX_NoPiece,(by first |k_is |kts_exm |kernel_rfl)⟩,⟨_,aX_NoRow,(by first |k_is |kts_exm |kernel_rfl)⟩,⟨_,aX_TooMany,(by first |k_is |kts_exm |kernel_rfl)⟩,λ_ h=>by cases h⟩) (by simp only[forall_mem_cons];exact⟨(by first |k_is |kts_exm |kernel_rfl),λ_ h=>by cases h⟩)
  have x_NoText:=dxm X aX_NoText aX_WaveError (by first |k_is |kts_exm |kernel_rfl)
  have m_WaveError:=mg_of X G aX_WaveError
  have zB_ValueError:=mz (n := "ValueError") X G
  have Xmm:=dnm (x := "NoBits") X G
  have Xml:=dnm (x := "NoHead") X G
  have Xio:=dnm (x := "NoLadder") X G
  have Xko:=dnm (x := "NoLevel") X G
  have Xgu:=dnm (x := "NoPicture") X G
  have Xkn:=dnm (x := "NoPiece") X G
  have Xqs:=dnm (x := "NoRow") X G
  have Xmk:=dnm (x := "NoText") X G
  have Xkm:=dnm (x := "TooMany") X G
  have Xc2:=dnm (x := "raised") X G
  have Ye0:=dnm (x := "told") X G
  cases hfa.symm.trans D60.here
  refine Ypz D60 (λs v=>.of_eq rfl) λb KB GB=>?_
  have O_NoText:=Yld KB GB aX_NoText (by first |k_is |kts_exm |kernel_rfl)
  generalize OpenLaw.prog PySem.Challenge.rw_liftwave_k48_spoiled_texts=P
  have Xcs:=Xoy P w b D51 B KV
  have Xg7:=Xox P w b D53 B KV
  have Xdp:=Yc9 P w b D4 B KV
  have Xcg:=Xsj P w b D23 B KV
  have Xq5:=Xzz P w b D33 B KV Xcg
  have Xid:=Xqo P w b D34 B KV Xqw Xdp Xq5
  have Xdn:=Xsi P w b D28 B KV Xks
  have Xn5:=Xxa P w b D26 B KV Xfe Xcg Xdp
  have Xdo:=Xsk P w b D27 B KV Xh4 Xn5
  have Xf1:=Xw9 P w b D39 B KV Xb7 Xcg Xdp
  have Xn4:=Xw8 P w b D38 B KV
  have Xia:=Xql P w b D29 B KV
  have Xe2:=Xl4 P w b D30 B KV Xia
  have Ybu:=Yhz P w b D31 B KV Xuk Yiz Yax Xul
  have Xip:=Xzw P w b D32 B KV Yaz Xe2 Ybu
  have Xg8:=Xoz P w b D35 B KV Xc2 Xip
  have Xd9:=Xk5 P w b D36 B KV Xc2 Xip
  have Ybt:=Yhy P w b D37 B KV Xc2 Xn4 Xg8 Xd9
  have Xlc:=Xub P w b D24 B KV
  have Xq3:=Xzx P w b D25 B KV Xlc
  have Xda:=Xqp P w b D19 B KV
  have Xjv:=Xsh P w b D20 B KV Xda
  have Xdq:=Xsl P w b D6 B KV
  have Xds:=Xsn P w b D10 B KV CV_Walk
  have Xcc:=Xl7 P w b D9 M_Walk B KV CV_Walk Xei Xdq Xds
  have Xbp:=Xl6 P w b D11 B KV CV_Walk
  have Xq6:=Xz0 P w b D21 B KV Xej Xkr Xcm Xh6 Xh5
  have Xie:=Xqq P w b D12 B KV CV_Walk
  have Xct:=Xkl P w b D15 B KV CV_Walk Xej Xcm Xh5
  have Xfp:=Xnl P w b D8 B KV
  have Xg1:=Xoq P w b D7 B KV
  have Xg3:=Xot P w b D5 B KV Xh5 Xcm
  have Xdr:=Xsm P w b D16 B KV CV_Walk Xkr Xei Xck Xcm Xh5 Xlw Xg3
  have Xjw:=Xsp P w b D17 B KV CV_Walk Xck Xei Xh6 Xcm Xh5 Xdq Xdr
  have Xdt:=Xso P w b D14 B KV CV_Walk Xej Xh6 Xkr Xlw Ye0 Xct Xfp Xg1 Xdr Xjw Xds
  have Ybs:=Yhx P w b D22 B KV CV_Walk Xcc Xda Xbp Xq6 Xie Xdt
  have Xut:=Yda P w b D42 B KV Xqz Xid Xdn Xdo Xf1 Ybt Xq3 Xjv Ybs
  have Xib:=Xqm P w b D52 B KV Xdn
  have Xfo:=Xnk P w b D44 B KV
  have Xd7:=Xk3 P w b D45 B KV Xen Xfo
  have Xq4:=Xzy P w b D1 B KV Xbx Xk8
  have Xn2:=Xw6 P w b D46 B KV Xgx Xpr Xd7 Xq4
  have Xd8:=Xk4 P w b D54 B KV
  have Xe3:=Xl5 P w b D55 B KV
  have Xg4:=Xou P w b D56 B KV
  have Xic:=Xqn P w b D57 B KV
  have Xg5:=Xov P w b D58 B KV Xd8 Xe3 Xg4 Xic
  have Xcr:=Xor P w b D43 B KV aX_NoText O_NoText Xnw Xgy Xdp
  have Xjt:=Xsf P w b D47 B KV aX_NoText O_NoText Xcr
  have Xg2:=Xos P w b D48 B KV aX_NoText O_NoText Xen Xjt
  have Xn6:=Xxb P w b D40 B KV Xgx Xb7 Xf1 Xdo
  have Xju:=Xsg P w b D49 B KV aX_NoText O_NoText Xe0 Xqy Xcr Xg2 Xn6
  have Xn7:=Xxc P w b D2 B KV aX_NoText O_NoText Xbx Xk8
  have Xlb:=Xua P w b D3 B KV aX_NoText O_NoText Xn7
  have Xg9:=Xo0 P w b D13 B KV CV_Walk Xbp Xdt
  have Xld:=Xuc P w b D18 B KV CV_Walk Xcc Xg9
  have Xn3:=Xw7 P w b D41 B KV Xqx Yay Yaw Xld
  have Xc6:=Xse P w b D50 B KV aX_NoText O_NoText CV_Walk Xuj Xpr Xe1 Xju Xlb Xn3 Xbp
  have Xg6:=Xow P w b D59 B KV m_WaveError x_NoText EV_NoText zB_ValueError Xmk Xml Xio Xmm Xko Xgu Xkn Xqs Xkm Xc6
  exact Ylh P w b D60 B KV Xcs Xg7 Xut Xib Xn2 Xg5 Xc6 Xg6